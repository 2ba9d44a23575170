package sched_test

import (
	"math"
	"slices"
	"testing"

	"derrick/sched"
)

// queue makes a queue with those who wait in it.
func queue(script []int, ids ...int) *sched.Queue {
	q := sched.New(script)
	for _, id := range ids {
		q.Push(id)
	}
	return q
}

func waits(t *testing.T, q *sched.Queue, want ...int) {
	t.Helper()
	if got := q.List(); !slices.Equal(got, want) {
		t.Errorf("List() = %v; not %v", got, want)
	}
	if got := q.Len(); got != len(want) {
		t.Errorf("Len() = %d; not %d", got, len(want))
	}
}

func number(t *testing.T, q *sched.Queue, want int) {
	t.Helper()
	if got := q.Number(); got != want {
		t.Errorf("Number() = %d; not %d", got, want)
	}
}

func next(t *testing.T, q *sched.Queue, want int) {
	t.Helper()
	if got, ok := q.Next(); got != want || !ok {
		t.Errorf("Next() = %d, %v; not %d, true", got, ok, want)
	}
}

func nobody(t *testing.T, q *sched.Queue) {
	t.Helper()
	if got, ok := q.Next(); got != 0 || ok {
		t.Errorf("Next() = %d, %v; not 0, false", got, ok)
	}
}

func yield(t *testing.T, q *sched.Queue, now, want int) {
	t.Helper()
	if got := q.Yield(now); got != want {
		t.Errorf("Yield(%d) = %d; not %d", now, got, want)
	}
}

func TestTheChaptersExample(t *testing.T) {
	q := sched.New([]int{3, 1})
	waits(t, q)
	q.Push(7)
	q.Push(8)
	waits(t, q, 7, 8)
	yield(t, q, 9, 8)
	waits(t, q, 7, 9)
	next(t, q, 9)
	waits(t, q, 7)
	next(t, q, 7)
	waits(t, q)
	nobody(t, q)
	waits(t, q)
}

func TestNumbersAreUsedUpInOrder(t *testing.T) {
	q := sched.New([]int{5, 0, 5, math.MaxInt, 2, 1})
	for _, want := range []int{5, 0, 5, math.MaxInt, 2, 1} {
		number(t, q, want)
	}
}

func TestNumbersBelowNoughtCountAsNought(t *testing.T) {
	q := sched.New([]int{-1, 4, -2, math.MinInt, math.MinInt + 1, 6, -math.MaxInt, -7})
	for _, want := range []int{0, 4, 0, 0, 0, 6, 0, 0, 0} {
		number(t, q, want)
	}
}

func TestAScheduleThatIsUsedUpGivesNoughts(t *testing.T) {
	for _, script := range [][]int{nil, {}, {3}, {3, 9}} {
		q := queue(script, 1, 2, 3)
		for range script {
			q.Number()
		}
		for range 5 {
			number(t, q, 0)
		}
		yield(t, q, 4, 4)
		waits(t, q, 1, 2, 3)
		next(t, q, 1)
		next(t, q, 2)
		next(t, q, 3)
		nobody(t, q)
	}
}

func TestANumberLeavesTheQueue(t *testing.T) {
	q := queue([]int{1, 2, -3}, 5, 6)
	for range 5 {
		q.Number()
		waits(t, q, 5, 6)
	}
}

func TestWhatTellsTakesNoNumber(t *testing.T) {
	q := sched.New([]int{8, 9})
	q.Push(1)
	q.Push(2)
	q.Len()
	q.List()
	number(t, q, 8)
	number(t, q, 9)
	number(t, q, 0)
}

func TestPushPutsAnyNumberAtTheEnd(t *testing.T) {
	all := []int{4, -4, 0, 4, 4, math.MaxInt, math.MinInt, 0, 4}
	q := sched.New([]int{1, 3})
	for n, id := range all {
		waits(t, q, all[:n]...)
		q.Push(id)
	}
	waits(t, q, all...)
}

func TestOneWhoWaitsTwiceIsTakenTwice(t *testing.T) {
	q := queue([]int{2, 0}, 7, 8, 7, 7)
	next(t, q, 7)
	waits(t, q, 7, 8, 7)
	next(t, q, 7)
	waits(t, q, 8, 7)
	next(t, q, 8)
	next(t, q, 7)
	nobody(t, q)
	q = queue([]int{1}, 7, 8)
	yield(t, q, 7, 7)
	waits(t, q, 8, 7)
}

func TestWhoIsNoughtIsToldFromNobody(t *testing.T) {
	q := queue(nil, 0)
	next(t, q, 0)
	nobody(t, q)
}

func TestNextTakesEachPlace(t *testing.T) {
	for length := 1; length <= 9; length++ {
		for n := range 4 * length {
			var ids []int
			for k := range length {
				ids = append(ids, 100+k)
			}
			q := queue([]int{n}, ids...)
			next(t, q, ids[n%length])
			waits(t, q, slices.Delete(ids, n%length, n%length+1)...)
		}
	}
}

func TestNextWithNumbersAtTheEdges(t *testing.T) {
	for _, e := range []struct{ n, want int }{
		{math.MaxInt, 11}, {math.MaxInt - 1, 10}, {math.MaxInt - 2, 12}, // 2^63 - 1 is 1 modulo 3
		{math.MinInt, 10}, {math.MinInt + 1, 10}, {-1, 10}, {-2, 10}, {-math.MaxInt, 10},
	} {
		next(t, queue([]int{e.n}, 10, 11, 12), e.want)
	}
}

func TestNextWithNobodyThereTakesANumber(t *testing.T) {
	q := sched.New([]int{1, 1, 2})
	nobody(t, q)
	nobody(t, q)
	q.Push(4)
	q.Push(5)
	q.Push(6)
	next(t, q, 6)
	next(t, q, 4)
}

func TestYieldWithAnEvenNumberChangesNothing(t *testing.T) {
	for _, n := range []int{0, 2, 4, 6, 100, math.MaxInt - 1, -1, -3, -2, math.MinInt, math.MinInt + 1} {
		q := queue([]int{n, 5}, 1, 2, 3)
		yield(t, q, 9, 9)
		waits(t, q, 1, 2, 3)
		number(t, q, 5)
		q = queue([]int{n, 5}, 1)
		yield(t, q, 9, 9)
		waits(t, q, 1)
		number(t, q, 5)
	}
}

func TestYieldWithNobodyThereTakesANumber(t *testing.T) {
	q := sched.New([]int{1, 3, 2, math.MaxInt, 1})
	for range 4 {
		yield(t, q, 6, 6)
		waits(t, q)
	}
	q.Push(4)
	yield(t, q, 6, 4)
	waits(t, q, 6)
}

func TestYieldWithAnOddNumberTakesEachPlace(t *testing.T) {
	const now = 99
	for length := 1; length <= 9; length++ {
		for n := 1; n < 8*length; n += 2 {
			var ids []int
			for k := range length {
				ids = append(ids, 100+k)
			}
			q := queue([]int{n, 77}, ids...)
			ids = append(ids, now)
			place := n / 2 % len(ids)
			yield(t, q, now, ids[place])
			waits(t, q, slices.Delete(ids, place, place+1)...)
			number(t, q, 77)
		}
	}
}

func TestYieldMayPickWhoYields(t *testing.T) {
	q := queue([]int{3}, 5)
	yield(t, q, 6, 6)
	waits(t, q, 5)
	q = queue([]int{7}, 1, 2, 3)
	yield(t, q, 4, 4)
	waits(t, q, 1, 2, 3)
	yield(t, queue([]int{1}, 5), 6, 5)
	yield(t, queue([]int{5}, 5), 6, 5)
}

func TestYieldWithNumbersAtTheEdges(t *testing.T) {
	for _, e := range []struct{ n, want int }{ // the half of 2^63 - 1 is 2^62 - 1: 0 modulo 3
		{math.MaxInt, 10}, {math.MaxInt - 2, 12}, {math.MaxInt - 4, 11},
	} {
		yield(t, queue([]int{e.n}, 10, 11), 12, e.want)
	}
	for _, now := range []int{math.MaxInt, math.MinInt, 0, -1} {
		yield(t, queue([]int{2}, 10, 11), now, now)
		q := queue([]int{1}, 10, 11)
		yield(t, q, now, 10)
		waits(t, q, 11, now)
	}
}

func TestQueuesKnowNothingOfEachOther(t *testing.T) {
	script := []int{1, 2, 3}
	a, b := queue(script, 1, 2), queue(script, 3)
	next(t, a, 2)
	waits(t, b, 3)
	number(t, b, 1)
	number(t, a, 2)
	b.Push(4)
	waits(t, a, 1)
	next(t, b, 3)
	number(t, b, 3)
	number(t, a, 3)
}
