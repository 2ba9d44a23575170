package script_test

import (
	"math/rand"
	"regexp"
	"strings"
	"testing"
)

// form is how a line that isn't a source's is written, put down as a pattern.
var form = regexp.MustCompile(`^(clear|check|show|(schedule|force)( (0|-?[1-9][0-9]{0,14}))*|words (0|-?[1-9][0-9]{0,14})|(run|walk) (0|[1-9][0-9]{0,4}|100000))$`)

// isLine tells whether a line is of one of the forms.
func isLine(line string) bool {
	return strings.HasPrefix(line, "|") || form.MatchString(line)
}

// TestForms asks lines of each form, and lines that are nearly of one.
func TestForms(t *testing.T) {
	for line, want := range map[string]string{
		"clear": "ok", "schedule": "ok", "force": "ok", "schedule 0": "ok", "force 0": "ok", "schedule 1 2 3": "ok", "force 3 2 1": "ok", "force -1 5 5": "ok",
		"words 0": "ok", "words 1": "ok", "words -1": "ok", "words 4096": "ok", "check": "types", "run 0": "types", "walk 0": "types", "run 100000": "types", "walk 100000": "types", "run 99999": "types", "walk 10000": "types", "show": "",
		"schedule 999999999999999": "ok", "force -999999999999999": "ok", "words 999999999999999": "ok", "words -999999999999999": "ok", "schedule 100000000000000 -100000000000000": "ok",
		"|": "ok", "||": "ok", "| ": "ok", "|clear": "ok", "|\x00\xff\r": "ok",

		"schedule 1000000000000000": "error", "force -1000000000000000": "error", "words 1000000000000000": "error", "words -1000000000000000": "error", "schedule 9999999999999999": "error", "force 99999999999999999999": "error",
		"schedule 1 1000000000000000": "error", "schedule 000000000000000": "error", "schedule 0000000000000001": "error", "words 18446744073709551617": "error",
		"schedule 01": "error", "schedule 00": "error", "schedule -0": "error", "schedule -01": "error", "schedule -": "error", "schedule --1": "error", "schedule +1": "error", "schedule -+1": "error", "schedule +-1": "error", "schedule +": "error", "schedule 1-": "error", "schedule 1 -0": "error", "schedule -0 1": "error",
		"force 01": "error", "force -0": "error", "force +1": "error", "words 01": "error", "words -0": "error", "words +1": "error", "words -": "error", "run 01": "error", "run +1": "error", "run -0": "error", "walk 00": "error", "walk -": "error", "walk +0": "error",
		"schedule 1_0": "error", "schedule 0x1": "error", "schedule 1e1": "error", "schedule 1.0": "error", "schedule 1,2": "error", "schedule 1a": "error", "schedule a": "error", "schedule :": "error", "schedule /": "error", "schedule 1 x 2": "error", "schedule \xd9\xa1": "error", "schedule 1\t2": "error", "schedule 1\v": "error",
		"run": "error", "walk": "error", "words": "error", "run 1 1": "error", "walk 1 1": "error", "words 1 1": "error", "run -1": "error", "walk -1": "error", "run 100001": "error", "walk 100001": "error", "run 999999999999999": "error", "walk 1000000000000000": "error", "run x": "error", "walk 1 x": "error", "words x": "error", "run 0100000": "error",
		"clear ": "error", " clear": "error", "check ": "error", "show ": "error", "schedule ": "error", "force ": "error", "words 1 ": "error", "run 1 ": "error", "walk 1 ": "error", "schedule 1 ": "error", "force 1 ": "error", "words ": "error", "run ": "error", "walk ": "error",
		" schedule": "error", " run 1": "error", "schedule  1": "error", "schedule 1  2": "error", "run  1": "error", "walk  1": "error", "words  1": "error", "force  1": "error", "force 1  2": "error", "schedule\t1": "error", "run\t1": "error", "clear\t": "error", "run1": "error", "schedule1": "error", "words4096": "error", "walk-1": "error",
		"clear 1": "error", "check 1": "error", "show 1": "error", "clear clear": "error", "check it": "error", "show x": "error", "clear |": "error", "show |": "error", "clear 0": "error", "check 0": "error", "show 0": "error",
		"": "error", " ": "error", "  ": "error", "Clear": "error", "CLEAR": "error", "clea": "error", "clears": "error", "cleat": "error", "c": "error", "Run 1": "error", "ran 1": "error", "runs 1": "error", "walks 1": "error", "walked 1": "error", "word 1": "error", "Words 1": "error", "forces 1": "error", "Force": "error", "schedules": "error", "Schedule 1": "error",
		" |": "error", "\t|": "error", "1": "error", "0": "error", "-1": "error", "1 run": "error", "99": "error", "hm": "error", "ok": "error", "error": "error", "running": "error", "explain": "error", "source": "error", "print": "error", "\xff": "error", "\x00": "error", "#": "error",
	} {
		if want != "" {
			want += "\n"
		}
		if line != "" {
			answers(t, line, want)
		}
		answers(t, line+"\n", want)
		if isLine(line) == (want == "error\n") {
			t.Errorf("%q: the pattern says %v", line, isLine(line))
		}
	}
}

// near is a line with a byte more, fewer, twice, or another one.
func near(chance *rand.Rand, line string) string {
	k := chance.Intn(len(line) + 1)
	const likely = " 0-+|1x9rc"
	c := string(likely[chance.Intn(len(likely))])
	if chance.Intn(5) == 0 {
		c = string([]byte{byte(chance.Intn(256))})
	}
	switch rest := line[min(k+1, len(line)):]; chance.Intn(4) {
	case 0:
		return line[:k] + c + line[k:]
	case 1:
		return line[:k] + rest
	case 2:
		return line[:k] + c + rest
	default:
		return line[:k] + line[max(0, k-1):]
	}
}

// TestLinesNearAForm changes lines of all forms by chance: each is an error just if it has none of the forms.
func TestLinesNearAForm(t *testing.T) {
	lines := []string{"clear", "check", "show", "schedule", "force", "schedule 1 -2 30", "force 4 5", "words 512", "words -7", "run 0", "run 7", "run 100000", "walk 99999", "walk 10", "schedule 123456789012345", "force -123456789012345 0", "words 0", "|x", "schedule 10 20 30 40 50 60"}
	tally := [2]int{}
	for seed := range 60000 {
		chance := rand.New(rand.NewSource(int64(seed)))
		line := lines[seed%len(lines)]
		for range 1 + chance.Intn(3) {
			line = near(chance, line)
		}
		if line = strings.ReplaceAll(line, "\n", ""); line == "" {
			continue
		}
		got := answered(t, line)
		if isError := got == "error\n"; isError == isLine(line) {
			t.Errorf("%q: %q", line, got)
		} else if isError {
			tally[0]++
		} else {
			tally[1]++
		}
	}
	if tally[0] < 20000 || tally[1] < 3000 {
		t.Errorf("%v", tally)
	}
}

// TestErrorsChangeNothing has lines with an error between those that set something.
func TestErrorsChangeNothing(t *testing.T) {
	const src = "|func main() { go print1(); print(2) }\n|func print1() { print(1) }\nschedule 1 1\nwords 256\n"
	const wrong = "schedule 0 x\nschedule 0 \nwords 1 2\nwords 01\nwords x\nclear 1\nclear \n |#\nforce 1 +2\nrun\nrun 100001\n"
	answers(t, src+wrong+"walk 1\nrun 1\nwords 100\nrun 1\nwords\nwords  4096\nrun 1\n",
		oks(4)+strings.Repeat("error\n", 11)+"exited \"12\"\nexited \"12\"\nok\nmemory \"\"\nerror\nerror\nmemory \"\"\n")
}
