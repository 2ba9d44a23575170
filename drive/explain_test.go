package drive_test

import (
	"math"
	"math/rand"
	"strconv"
	"strings"
	"testing"

	"derrick/api"
	"derrick/drive"
)

func TestExplainOk(t *testing.T) {
	for _, src := range []string{"", "\n", "a\nb", "func main() { }"} {
		if s := drive.Explain(src, api.Fault{}); s != "ok" {
			t.Errorf("%q: %q", src, s)
		}
	}
}

// stages are the words of stages, and whether a place stands behind them.
var stages = []struct {
	stage    int
	words    string
	isPlaced bool
}{
	{api.TooBig, "too big", false}, {api.Lexical, "lexical", true}, {api.TooDeep, "too deep", true}, {api.Syntax, "syntax", true}, {api.Types, "types", false},
	{-1, "fault", true}, {6, "fault", true}, {7, "fault", true}, {-5, "fault", true}, {1 << 32, "fault", true}, {math.MaxInt, "fault", true}, {math.MinInt, "fault", true},
}

// place tells a place by going through the source byte by byte.
func place(src string, at int) string {
	line, octet := 1, 1
	for k := range len(src) {
		if k >= at {
			break
		}
		octet++
		if src[k] == 10 {
			line++
			octet = 1
		}
	}
	return ": line " + strconv.Itoa(line) + ", byte " + strconv.Itoa(octet)
}

// explained asks for each stage at a place.
func explained(t *testing.T, src string, at int, where string) {
	t.Helper()
	for _, x := range stages {
		want := x.words
		if x.isPlaced {
			want += where
		}
		if s := drive.Explain(src, api.Fault{Stage: x.stage, At: at}); s != want {
			t.Errorf("%.100q, stage %d at %d: %q, not %q", src, x.stage, at, s, want)
		}
	}
	if at != 0 {
		if s := drive.Explain(src, api.Fault{At: at}); s != "fault"+where {
			t.Errorf("%.100q, no stage, at %d: %q", src, at, s)
		}
	}
}

func TestExplainPlaces(t *testing.T) {
	for _, x := range []struct {
		src         string
		at          int
		line, octet string
	}{
		{"", 0, "1", "1"}, {"", 1, "1", "1"}, {"", -1, "1", "1"},
		{"a", 0, "1", "1"}, {"a", 1, "1", "2"}, {"a", 2, "1", "2"},
		{"\n", 0, "1", "1"}, {"\n", 1, "2", "1"}, {"\n", 2, "2", "1"},
		{"ab\ncd", 2, "1", "3"}, {"ab\ncd", 3, "2", "1"}, {"ab\ncd", 4, "2", "2"}, {"ab\ncd", 5, "2", "3"}, {"ab\ncd", 6, "2", "3"}, {"ab\ncd", -3, "1", "1"},
		{"a\n\n\nb\n", 1, "1", "2"}, {"a\n\n\nb\n", 2, "2", "1"}, {"a\n\n\nb\n", 3, "3", "1"}, {"a\n\n\nb\n", 4, "4", "1"}, {"a\n\n\nb\n", 5, "4", "2"}, {"a\n\n\nb\n", 6, "5", "1"}, {"a\n\n\nb\n", 60, "5", "1"},
		{"a\r\nb", 2, "1", "3"}, {"a\r\nb", 3, "2", "1"}, {"a\rb", 2, "1", "3"},
		{"\xc3\xa4\xffb", 3, "1", "4"}, {"\x00\n\x00", 2, "2", "1"}, {"\t\tx", 2, "1", "3"}, {"\u2028x", 3, "1", "4"},
	} {
		explained(t, x.src, x.at, ": line "+x.line+", byte "+x.octet)
	}
}

// TestExplainEachPlace asks for each place of sources with lines of all sorts, and for places that there aren't.
func TestExplainEachPlace(t *testing.T) {
	sources := []string{"", "\n", "\n\n", "a", "a\n", "\na", "a\n\nb", "a\nb\n\n", "one line, no end", strings.Repeat("\n", 100), strings.Repeat("x\n", 100) + "y", strings.Repeat("\nxyz", 60)}
	chance := rand.New(rand.NewSource(1))
	for range 40 {
		var src strings.Builder
		for range chance.Intn(60) {
			src.WriteByte("\n\n \rab\x00\xff"[chance.Intn(8)])
		}
		sources = append(sources, src.String())
	}
	for _, src := range sources {
		for at := -2; at <= len(src)+2; at++ {
			explained(t, src, at, place(src, at))
		}
		first, behind := place(src, 0), place(src, len(src))
		for _, at := range []int{-3, -1000, math.MinInt, math.MinInt + 1} {
			explained(t, src, at, first)
		}
		for _, at := range []int{len(src) + 100, math.MaxInt, math.MaxInt - 1} {
			explained(t, src, at, behind)
		}
	}
}

// TestExplainFaults explains what is wrong with sources that are refused.
func TestExplainFaults(t *testing.T) {
	for src, want := range map[string]string{
		padded("func main() { }", api.MaxSource):    "ok",
		padded("func main() { }", api.MaxSource+1):  "too big",
		strings.Repeat("\n", api.MaxSource+1):       "too big",
		"a\n#":                                      "lexical: line 2, byte 1",
		"func main() {\n\tprint(12a)\n}\n":          "lexical: line 2, byte 10",
		"func main() {\n\tprint(\"a\n":              "lexical: line 2, byte 10",
		"func main() { print(\"a":                   "lexical: line 1, byte 23",
		"\n\n" + strings.Repeat("(", api.MaxNest+1): "too deep: line 3, byte 41",
		"func":   "syntax: line 1, byte 5",
		"func\n": "syntax: line 2, byte 1",
		"func main() {\n\tx := 1\n\ty = = 2\n}\n": "syntax: line 3, byte 6",
		"func main() {\n\tx := nil\n}\n":          "types",
		"":                                        "types",
		"func main() {\n\tx := \"a\\\\\\\"\\n\" // ok\n\n}\n": "ok",
	} {
		if _, fault := drive.Compile(src); drive.Explain(src, fault) != want {
			t.Errorf("%.100q: %+v, %q, not %q", src, fault, drive.Explain(src, fault), want)
		}
	}
}
