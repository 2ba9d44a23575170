package sched_test

import (
	"math"
	"math/rand"
	"slices"
	"testing"

	"derrick/sched"
)

// plain is the queue's second way: the schedule with how many of its numbers are used up, and a list that is made anew each time.
type plain struct {
	script []int
	used   int
	ids    []int
}

func (p *plain) number() int {
	p.used++
	if p.used > len(p.script) || p.script[p.used-1] < 0 {
		return 0
	}
	return p.script[p.used-1]
}

func (p *plain) takeOut(place int) int {
	id := p.ids[place]
	p.ids = slices.Concat(p.ids[:place], p.ids[place+1:])
	return id
}

func (p *plain) next() (int, bool) {
	n := p.number()
	if len(p.ids) == 0 {
		return 0, false
	}
	return p.takeOut(n % len(p.ids)), true
}

func (p *plain) yield(now int) int {
	n := p.number()
	if len(p.ids) == 0 || n&1 == 0 {
		return now
	}
	p.ids = slices.Concat(p.ids, []int{now})
	return p.takeOut((n >> 1) % len(p.ids))
}

// anyNumber is mostly a small number, at times one at the edges or below 0.
func anyNumber(rnd *rand.Rand) int {
	switch rnd.Intn(8) {
	case 0:
		return math.MaxInt - rnd.Intn(4)
	case 1:
		return math.MinInt + rnd.Intn(4)
	case 2:
		return -rnd.Intn(5)
	case 3:
		return int(rnd.Uint64())
	}
	return rnd.Intn(40)
}

// play makes one call by chance on both queues and tells whether they agree; the higher rise, the more often somebody is put in.
func play(t *testing.T, rnd *rand.Rand, q *sched.Queue, p *plain, rise int) bool {
	t.Helper()
	switch id := anyNumber(rnd); rnd.Intn(5 + rise) {
	case 0:
		if got, want := q.Number(), p.number(); got != want {
			t.Errorf("Number() = %d; not %d", got, want)
		}
	case 1, 2:
		got, ok := q.Next()
		if want, wantOk := p.next(); got != want || ok != wantOk {
			t.Errorf("Next() = %d, %v; not %d, %v", got, ok, want, wantOk)
		}
	case 3, 4:
		if got, want := q.Yield(id), p.yield(id); got != want {
			t.Errorf("Yield(%d) = %d; not %d", id, got, want)
		}
	default:
		q.Push(id)
		p.ids = slices.Concat(p.ids, []int{id})
	}
	waits(t, q, p.ids...)
	return !t.Failed()
}

func TestPlaysByChance(t *testing.T) {
	for seed := range 600 {
		rnd := rand.New(rand.NewSource(int64(seed)))
		script := make([]int, rnd.Intn(300))
		for k := range script {
			script[k] = anyNumber(rnd)
		}
		q, p := sched.New(script), &plain{script: script}
		for range 300 {
			if !play(t, rnd, q, p, 1+seed%4) {
				t.Fatalf("play %d, schedule %v", seed, script)
			}
		}
	}
}

func TestManyWhoRunInTurn(t *testing.T) {
	const many = 200000
	q := sched.New(nil)
	for id := range many {
		q.Push(id)
	}
	for id := range many {
		next(t, q, id)
		q.Push(-id)
	}
	for id := range many {
		next(t, q, -id)
	}
	nobody(t, q)
}
