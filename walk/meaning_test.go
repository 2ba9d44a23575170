package walk_test

import (
	"math/rand"
	"strings"
	"testing"

	"derrick/api"
	"derrick/walk"
)

// TestWrittenByChance holds what programs do against what the trees of their sources mean.
func TestWrittenByChance(t *testing.T) {
	states, output := map[int]int{}, 0
	for seed := range 1500 {
		chance := rand.New(rand.NewSource(int64(seed)))
		src := written(chance, 20+seed%150)
		if src == "" {
			continue
		}
		u, p := compiled(t, src)
		for range 3 {
			script := schedule(chance)
			o, made, steps := readTree(u, script, 20000)
			got, gotMade := walk.Run(p, script, 1000*steps)
			states[o.State]++
			output += len(o.Output)
			isRight := got == o && gotMade == made
			if o.State == api.Running {
				isRight = strings.HasPrefix(got.Output, o.Output)
			}
			less, _ := walk.Run(p, script, chance.Intn(2*steps))
			isRight = isRight && strings.HasPrefix(got.Output, less.Output) && (less.State == api.Running || less == got)
			if !isRight {
				t.Fatalf("%s\n%v\nmeans %+v %+v\ndoes  %+v %+v\nwith less fuel %+v", src, script, o, made, got, gotMade, less)
			}
		}
	}
	if states[api.Exited] < 2000 || states[api.Fatal] < 1000 || output < 50000 {
		t.Errorf("%v, %d bytes of output", states, output)
	}
}

func schedule(chance *rand.Rand) []int {
	script := make([]int, chance.Intn(60))
	for k := range script {
		script[k] = chance.Intn(24) - 2
	}
	return script
}
