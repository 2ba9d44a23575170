package drive_test

import (
	"math/rand"
	"reflect"
	"slices"
	"strings"
	"testing"

	"derrick/api"
	"derrick/check"
	"derrick/drive"
	"derrick/lex"
	"derrick/parse"
)

// alike are groups of tokens, and of what may stand for one, of which one often can stand for another.
var alike = [][]string{
	{"+", "-", "*", "/", "%"}, {"==", "!=", "<", "<=", ">", ">="}, {"&&", "||"}, {"=", "+=", "-=", "*=", ":="}, {"++", "--"}, {"go", "defer", ""}, {"int", "bool", "string", "[]int", "chan int", "func()"},
	{"true", "false", "nil", "!true"}, {"len", "cap"}, {"break", "continue", "return", "fallthrough", `panic("p")`}, {"{", "{ print(1);", "{ if true { };", "{ for { break };"}, {"<-", "", "-"},
	{";", "; ;", "; print(recover());", `; func() { panic("q") }();`, "; x := 1;", "; { } ;", "; #", "; 007", "; return 1;"}, {"(", "( -", "( 1 +", "( 0 *", "( true &&", "( nil ,"}, {"[", "[ 1 +", "[ -", "[ 1 :"}, {"]", ": ]", "+ 1 ]"},
}

// likely are tokens that stand in many places.
var likely = []string{"1", "0", "nil", "true", `"a"`, "x", "i", ";", "[", "]", "(", ")", "{", "}", "for", "select { }", "#", "007", "&T{}"}

// written is a token as a source may have it.
func written(x api.Token) string {
	if x.Kind == api.Str {
		return quoted(x.Text)
	}
	return x.Text
}

// another is what may stand where a token does: one that is like it; or of the same kind, from the same source.
func another(chance *rand.Rand, x api.Token, tokens []api.Token) string {
	for _, group := range alike {
		if slices.Contains(group, x.Text) {
			return group[chance.Intn(len(group))]
		}
	}
	for range 50 {
		if other := tokens[chance.Intn(len(tokens))]; other.Kind == x.Kind && other.Text != x.Text {
			return written(other)
		}
	}
	return written(x)
}

// changed is a source in which some tokens are others, lack, or stand elsewhere.
func changed(chance *rand.Rand, src string) string {
	tokens, _ := lex.Scan(src)
	texts := make([]string, len(tokens))
	for k, x := range tokens {
		texts[k] = written(x)
	}
	for range 1 + chance.Intn(3) {
		k, from := chance.Intn(len(texts)), chance.Intn(len(texts))
		switch chance.Intn(12) {
		case 0:
			texts[k] = ""
		case 1:
			texts[k] += " " + likely[chance.Intn(len(likely))]
		case 2:
			texts[k], texts[from] = texts[from], texts[k]
		default:
			texts[k] = another(chance, tokens[k], tokens)
		}
	}
	return strings.Join(texts, " ")
}

// firstFault is that of the first stage whose rules fail, asked layer by layer.
func firstFault(src string) api.Fault {
	if len(src) > api.MaxSource {
		return api.Fault{Stage: api.TooBig, At: api.MaxSource}
	}
	if _, fault := lex.Scan(src); fault != (api.Fault{}) {
		return fault
	}
	if _, fault := parse.Parse(src); fault != (api.Fault{}) {
		return fault
	}
	if unit, _ := check.Check(src); reflect.DeepEqual(unit, api.Unit{}) {
		return api.Fault{Stage: api.Types}
	}
	return api.Fault{}
}

// isRefused holds that a source with a fault is nothing but that.
func isRefused(t *testing.T, src string, want api.Fault) {
	t.Helper()
	b, fault := drive.Compile(src)
	r, runFault := drive.Run(src, api.Config{Words: 4096, Fuel: 1000})
	o, walkFault := drive.Walk(src, nil, 1000)
	if len(b) != 0 || r != (drive.Report{}) || o != (api.Outcome{}) || fault != want || runFault != want || walkFault != want {
		t.Fatalf("%s\n%v %v %v, not %v; %v %+v %+v", src, fault, runFault, walkFault, want, b, r, o)
	}
}

// isSameRun holds that a run on the heap is that of the machine without bounds, as far as each comes.
func isSameRun(t *testing.T, src string, walked, run api.Outcome) {
	t.Helper()
	isWhole := walked.State != api.Running
	switch {
	case run.State == api.NoMemory && (run.Code != 2 || run.Why != "out of memory"):
		t.Fatalf("%s\n%+v", src, run)
	case isWhole && run.State != api.Running && run.State != api.NoMemory && run != walked:
		t.Fatalf("%s\n%+v, walked %+v", src, run, walked)
	case isWhole && !strings.HasPrefix(walked.Output, run.Output), !isWhole && !strings.HasPrefix(walked.Output, run.Output) && !strings.HasPrefix(run.Output, walked.Output):
		t.Fatalf("%s\n%+v, walked %+v", src, run, walked)
	}
}

// tally is how many sources there were of each stage, and how many runs that ended in each way.
type tally struct {
	stages [api.Types + 1]int
	states [api.NoMemory + 1]int
}

// agrees runs a right source on both machines, with heaps, schedules and collections of all sorts, and so are its bytes.
func (n *tally) agrees(t *testing.T, chance *rand.Rand, src string) {
	t.Helper()
	loaded(t, compiled(t, src))
	const fuel = 60000
	for _, script := range [][]int{nil, schedule(chance)} {
		walked, fault := drive.Walk(src, script, fuel)
		if fault != (api.Fault{}) {
			t.Fatalf("%s\n%v", src, fault)
		}
		var first drive.Report
		for _, c := range []api.Config{
			{Words: great, Fuel: fuel}, {Words: 128 + chance.Intn(500), Fuel: fuel}, {Words: 600 + chance.Intn(4000), Force: upTo(chance.Intn(500)), Fuel: fuel}, {Words: great, Fuel: chance.Intn(2000)},
		} {
			c.Script = script
			r, fault := drive.Run(src, c)
			if fault != (api.Fault{}) {
				t.Fatalf("%s\n%v", src, fault)
			}
			isSameRun(t, src, walked, r.Outcome)
			n.states[r.Outcome.State]++
			if first.Told.Points == 0 {
				first = r
			}
			told := r.Told
			told.Blocks, told.Collected = first.Told.Blocks, first.Told.Collected
			if c.Fuel == fuel && r.Outcome.State != api.NoMemory && (r.Outcome != first.Outcome || told != first.Told) {
				t.Fatalf("%s\n%+v: %+v, and %+v", src, c, r, first)
			}
		}
	}
}

// TestChangedSources changes the tokens of sources here and there: most have a fault then, of some stage; the others are run.
func TestChangedSources(t *testing.T) {
	n := &tally{}
	for seed := range 6000 {
		chance := rand.New(rand.NewSource(int64(seed)))
		src := changed(chance, works[seed%len(works)].src)
		fault := firstFault(src)
		n.stages[fault.Stage]++
		if fault == (api.Fault{}) {
			n.agrees(t, chance, src)
		} else {
			isRefused(t, src, fault)
		}
	}
	if n.stages[0] < 500 || n.stages[api.Lexical] < 100 || n.stages[api.Syntax] < 2000 || n.stages[api.Types] < 500 {
		t.Errorf("%v", n.stages)
	}
	if n.states[api.Running] < 200 || n.states[api.Exited] < 1000 || n.states[api.Fatal] < 500 || n.states[api.NoMemory] < 50 {
		t.Errorf("%v", n.states)
	}
}

// TestAnyBytes hands bytes over that are no source: all calls come to an end, and say the same.
func TestAnyBytes(t *testing.T) {
	for seed := range 6000 {
		chance := rand.New(rand.NewSource(int64(seed)))
		b := []byte(works[seed%len(works)].src)
		for range 1 + chance.Intn(4) {
			b[chance.Intn(len(b))] = byte(chance.Intn(256))
		}
		if seed%3 == 0 {
			b = b[chance.Intn(len(b)):]
		}
		src := string(b)
		if fault := firstFault(src); fault != (api.Fault{}) {
			isRefused(t, src, fault)
			continue
		}
		loaded(t, compiled(t, src))
		walked, _ := drive.Walk(src, nil, 20000)
		r, _ := drive.Run(src, api.Config{Words: great, Fuel: 20000})
		isSameRun(t, src, walked, r.Outcome)
	}
}
