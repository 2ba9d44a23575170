package vm

import (
	"errors"

	"derrick/api"
)

// errNoRoom is what a run panics with when something that it makes has no room.
var errNoRoom = errors.New("out of memory")

// noMemory is how such a run ends, but for its output.
func noMemory() api.Outcome {
	return api.Outcome{State: api.NoMemory, Code: 2, Why: errNoRoom.Error()}
}

// must hands on the word of something that was to be made, if it had room.
func must(w int, ok bool) int {
	if !ok {
		panic(errNoRoom)
	}
	return w
}
