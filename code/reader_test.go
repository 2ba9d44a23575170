package code

import (
	"errors"
	"testing"
)

func TestWhyAReaderIsStuck(t *testing.T) {
	rows := []struct {
		bytes []byte
		why   error
		text  string
	}{
		{nil, errEnd, "byte 0: the bytes end"},
		{[]byte{0, 0, 0, 0}, errEnd, "byte 4: the bytes end"},
		{[]byte{1, 5, 'a', 'b'}, errEnd, "byte 2: the bytes end"},
		{[]byte{0, 1, 2}, errForm, "byte 3: no byte that a writer writes there"},
		{[]byte{0, 0, 0, 0, 128, 0}, errForm, "byte 6: no byte that a writer writes there"},
		{[]byte{0, 1, 2, 128}, errForm, "byte 3: no byte that a writer writes there"},
	}
	for _, x := range rows {
		r := &reader{bytes: x.bytes}
		r.program()
		var s *stuck
		if !errors.Is(r.stuck, x.why) || !errors.As(r.stuck, &s) || s.Error() != x.text {
			t.Errorf("% x: %v", x.bytes, r.stuck)
		}
	}
}
