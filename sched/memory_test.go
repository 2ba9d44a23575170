package sched_test

import (
	"slices"
	"testing"

	"derrick/sched"
)

func TestTheScriptIsNotKept(t *testing.T) {
	script := []int{1, 3, 5, 2}
	q := queue(script, 10, 11)
	number(t, q, 1)
	clear(script)
	number(t, q, 3)
	script[2], script[3] = 8, 9
	number(t, q, 5)
	number(t, q, 2)
	number(t, q, 0)
}

func TestTheScriptsSpareRoomIsNoPartOfIt(t *testing.T) {
	script := append(make([]int, 0, 8), 4)
	q := sched.New(script)
	_ = append(script, 5, 6)
	number(t, q, 4)
	number(t, q, 0)
}

func TestTheScriptIsNotChanged(t *testing.T) {
	whole := []int{-1, 3, 5, -7, 21, 22, 23, 24}
	q := queue(whole[:4], 10, 11)
	for k := range 12 {
		q.Push(30 + k)
		q.Yield(k)
		q.Next()
		q.Number()
		q.List()
	}
	if want := []int{-1, 3, 5, -7, 21, 22, 23, 24}; !slices.Equal(whole, want) {
		t.Errorf("the script and what stands behind it: %v; not %v", whole, want)
	}
}

func TestAnEmptyScriptsSpareRoomIsLeft(t *testing.T) {
	whole := []int{1, 3, 5}
	q := queue(whole[:0], 10, 11)
	yield(t, q, 12, 12)
	next(t, q, 10)
	if want := []int{1, 3, 5}; !slices.Equal(whole, want) {
		t.Errorf("what stands behind the script: %v; not %v", whole, want)
	}
}

// spoil writes over all that a list has, its spare room too.
func spoil(list []int) {
	list = list[:cap(list)]
	for k := range list {
		list[k] = -77
	}
}

func TestAListIsMemoryOfItsOwn(t *testing.T) {
	for length := range 20 {
		var ids []int
		for k := range length {
			ids = append(ids, 100+k)
		}
		q := queue(nil, ids...)
		a, b := q.List(), q.List()
		spoil(a)
		if !slices.Equal(b, ids) {
			t.Errorf("another list: %v; not %v", b, ids)
		}
		waits(t, q, ids...)
		q.Push(5)
		spoil(b)
		waits(t, q, append(ids, 5)...)
	}
}

func TestAListStaysAsItWas(t *testing.T) {
	q := queue([]int{2, 3, 1}, 1, 2, 3, 4)
	list := q.List()
	next(t, q, 3)
	yield(t, q, 9, 2)
	next(t, q, 4)
	q.Push(8)
	if want := []int{1, 2, 3, 4}; !slices.Equal(list, want) {
		t.Errorf("the list is %v now; not %v", list, want)
	}
	waits(t, q, 1, 9, 8)
}

func TestAListOfNobodyHasNoRoomOfTheQueues(t *testing.T) {
	q := queue(nil, 1, 2, 3)
	next(t, q, 1)
	next(t, q, 2)
	next(t, q, 3)
	list := q.List()
	q.Push(4)
	spoil(list)
	_ = append(list, 6)
	waits(t, q, 4)
}
