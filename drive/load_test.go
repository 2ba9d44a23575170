package drive_test

import (
	"bytes"
	"math/rand"
	"reflect"
	"slices"
	"testing"

	"derrick/code"
	"derrick/drive"
)

// isNone holds that bytes are no program.
func isNone(t *testing.T, b []byte) {
	t.Helper()
	if p, ok := drive.Load(b); ok || !reflect.DeepEqual(p, code.Program{}) {
		t.Errorf("%v: %+v", b, p)
	}
}

// TestLoadEnds cuts bytes off at each place, and lets them go on.
func TestLoadEnds(t *testing.T) {
	for _, w := range works {
		b := compiled(t, w.src)
		for k := range b {
			isNone(t, b[:k])
		}
		for more := range 256 {
			isNone(t, append(slices.Clip(b), byte(more)))
		}
		isNone(t, slices.Concat(b, b))
		isNone(t, append(slices.Clip(b), make([]byte, 1000)...))
	}
}

func TestLoadNone(t *testing.T) {
	isNone(t, nil)
	isNone(t, []byte{})
	isNone(t, compiled(t, works[1].src)[1:])
}

// TestLoadKeepsNothing hands bytes over that are changed behind that: the program isn't, nor are the bytes by Load.
func TestLoadKeepsNothing(t *testing.T) {
	for _, w := range works {
		b := compiled(t, w.src)
		roomy := append(make([]byte, 0, 2*len(b)), b...)
		spare := roomy[len(b):cap(roomy)]
		p, other := loaded(t, roomy), loaded(t, b)
		if !bytes.Equal(roomy, b) || !bytes.Equal(spare, make([]byte, len(spare))) {
			t.Errorf("%s\nLoad changed the bytes", w.src)
		}
		for k := range roomy {
			roomy[k] = 0xff
		}
		if !reflect.DeepEqual(p, other) {
			t.Errorf("%s\nthe program was changed", w.src)
		}
		p.Funcs[0].Code[0].Op = -1
		if other.Funcs[0].Code[0].Op == -1 || !bytes.Equal(compiled(t, w.src), b) {
			t.Errorf("%s\nprograms share something", w.src)
		}
	}
}

// TestLoadByChance loads bytes by chance, and bytes of programs of which some are changed. They are what layer 8 says: some program, or none.
func TestLoadByChance(t *testing.T) {
	programs := 0
	for seed := range 20000 {
		chance := rand.New(rand.NewSource(int64(seed)))
		b := make([]byte, chance.Intn(40))
		for k := range b {
			b[k] = byte(chance.Intn([]int{2, 8, 256}[seed%3]))
		}
		if seed%2 == 0 {
			b = compiled(t, works[chance.Intn(len(works))].src)
			for range 1 + chance.Intn(3) {
				b[chance.Intn(len(b))] ^= 1 << chance.Intn(8)
			}
		}
		p, ok := drive.Load(b)
		want, isProgram := code.Decode(b)
		if ok != isProgram || !reflect.DeepEqual(p, want) || !ok && !reflect.DeepEqual(p, code.Program{}) {
			t.Fatalf("%v: %v %+v", b, ok, p)
		}
		if ok {
			programs++
			if len(b) > 0 {
				isNone(t, b[:len(b)-1])
				isNone(t, append(slices.Clip(b), 0))
			}
		}
	}
	if programs < 1000 {
		t.Errorf("%d programs", programs)
	}
}
