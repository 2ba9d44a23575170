package code

import (
	"errors"
	"strconv"
)

// more is the bit of a number's byte that tells that it isn't the last.
const more = 128

var (
	errEnd  = errors.New("the bytes end")
	errForm = errors.New("no byte that a writer writes there")
)

// stuck is why, and at which byte, a reader can't go on.
type stuck struct {
	at  int
	why error
}

func (s *stuck) Error() string {
	return "byte " + strconv.Itoa(s.at) + ": " + s.why.Error()
}

func (s *stuck) Unwrap() error {
	return s.why
}

// reader takes apart what a writer made, and only that. Once it is stuck, it stays so, and all that it answers is zero: whoever asks need look only at the end.
type reader struct {
	bytes []byte
	at    int
	stuck error
}

func (r *reader) program() Program {
	return Program{
		Texts:   readList(r, r.text),
		Globals: r.flags(),
		Structs: readList(r, r.flags),
		Funcs:   readList(r, r.function),
		Main:    r.number(),
	}
}

func (r *reader) function() Func {
	return Func{
		Name:     r.text(),
		Refs:     r.flags(),
		Params:   r.number(),
		Captures: r.number(),
		Result:   r.flag(),
		Code:     readList(r, r.instr),
	}
}

func (r *reader) instr() Instr {
	return Instr{
		Op:   r.number(),
		A:    r.number(),
		B:    r.number(),
		C:    r.number(),
		D:    r.number(),
		List: readList(r, r.number),
	}
}

func (r *reader) flags() []bool {
	return readList(r, r.flag)
}

// readList lets the list grow item by item: a length may be greater than any memory, but items that aren't there take none.
func readList[T any](r *reader, read func() T) []T {
	var items []T
	for n := r.size(); n > 0 && r.stuck == nil; n-- {
		items = append(items, read())
	}
	return items
}

func (r *reader) text() string {
	return string(r.take(r.size()))
}

func (r *reader) flag() bool {
	b := r.octet()
	if b > 1 {
		r.fail(errForm)
	}
	return b == 1
}

func (r *reader) number() int {
	n := r.size()
	return int(n>>1) ^ -int(n&1)
}

// size refuses a number that is written in more bytes than it needs or has more than 64 bits: no writer writes it.
func (r *reader) size() uint64 {
	var n uint64
	for shift := 0; ; shift += 7 {
		b := r.octet()
		if shift > 0 && b == 0 || shift == 63 && b > 1 {
			r.fail(errForm)
			return 0
		}
		n |= uint64(b%more) << shift
		if b < more {
			return n
		}
	}
}

func (r *reader) octet() byte {
	b := r.take(1)
	if len(b) == 0 {
		return 0
	}
	return b[0]
}

func (r *reader) take(n uint64) []byte {
	if n > uint64(len(r.bytes)-r.at) {
		r.fail(errEnd)
	}
	if r.stuck != nil {
		return nil
	}
	from := r.at
	r.at += int(n)
	return r.bytes[from:r.at]
}

// fail keeps the first reason: what is met behind it is met by one who has lost the way.
func (r *reader) fail(why error) {
	if r.stuck == nil {
		r.stuck = &stuck{at: r.at, why: why}
	}
}
