package sweep_test

import (
	"maps"
	"math/rand"
	"slices"
	"testing"

	"derrick/sweep"
)

// told is what a test knows of a block: the words that it put there, and which of them its header names.
type told struct {
	words []int
	named []bool
}

// plan is the second way: what is reached is found by going through all blocks again and again, till nothing more comes.
type plan map[int]told

func (p plan) children(at int) (all []int) {
	for k, word := range p[at].words {
		if _, is := p[word]; is && p[at].named[k] {
			all = append(all, word)
		}
	}
	return all
}

func (p plan) reached(roots []int) []int {
	in := map[int]bool{}
	next := roots
	for {
		for _, word := range next {
			if _, is := p[word]; is {
				in[word] = true
			}
		}
		before := len(next)
		next = slices.Clone(roots)
		for _, at := range slices.Sorted(maps.Keys(in)) {
			next = append(next, p.children(at)...)
		}
		if len(next) == before {
			return slices.Sorted(maps.Keys(in))
		}
	}
}

// anyWord is mostly a block's address, or one beside it.
func anyWord(rnd *rand.Rand, blocks []int) int {
	switch rnd.Intn(6) {
	case 0:
		return rnd.Intn(200) - 100
	case 1:
		return rnd.Int() - rnd.Int()
	case 2:
		return blocks[rnd.Intn(len(blocks))] + rnd.Intn(9) - 4
	}
	return blocks[rnd.Intn(len(blocks))]
}

// fill gives a block a header and words by chance.
func fill(f farm, rnd *rand.Rand, at int, blocks []int) told {
	room := f.Room(at)
	kind, size, mask := 1+rnd.Intn(4), rnd.Intn(room+3), rnd.Intn(1<<16)
	if kind == sweep.Behind {
		mask = rnd.Intn(room + 2)
	}
	words := make([]int, room-1)
	named := make([]bool, room-1)
	for k := range words {
		words[k] = anyWord(rnd, blocks)
		f.Store(at, k+1, words[k])
		switch kind {
		case sweep.Refs:
			named[k] = k < size
		case sweep.Behind:
			named[k] = k < size && k >= mask
		case sweep.Masked:
			named[k] = k < size && k < 16 && mask/(1<<k)%2 == 1
		}
	}
	f.Store(at, 0, sweep.Header(kind, size, mask))
	if rnd.Intn(8) == 0 {
		f.Store(at, 0, anyWord(rnd, blocks))
		clear(named)
	}
	return told{words, named}
}

func TestHeapsByChanceAgreeWithThePlainWay(t *testing.T) {
	for seed := range 300 {
		rnd := rand.New(rand.NewSource(int64(seed)))
		f := newFarm(t, 256+rnd.Intn(3000))
		for range 1 + rnd.Intn(100) {
			f.Alloc(1 + rnd.Intn(1+rnd.Intn(80)))
		}
		p := plan{}
		blocks := f.Blocks()
		for _, at := range blocks {
			if rnd.Intn(3) == 0 {
				p[at] = fill(f, rnd, at, blocks)
			} else {
				f.set(at, sweep.Header(sweep.Refs, 1, 0), anyWord(rnd, blocks))
				word, _ := f.Load(at, 1)
				p[at] = told{[]int{word}, []bool{true}}
			}
		}
		roots := make([]int, rnd.Intn(4))
		for i := range roots {
			roots[i] = anyWord(rnd, blocks)
		}
		for at := -2; at < 64*60; at++ {
			f.leads(at, p.children(at)...)
		}
		want := p.reached(roots)
		f.reaches(roots, want...)
		f.collects(roots, want...)
		f.collects(roots, want...)
		if t.Failed() {
			t.Fatalf("seed %d", seed)
		}
	}
}
