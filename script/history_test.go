package script_test

import (
	"math/rand"
	"strconv"
	"strings"
	"testing"

	"derrick/api"
	"derrick/check"
	"derrick/drive"
	"derrick/parse"
	"derrick/print"
)

// since are the lines behind the last clear.
func since(lines []string) []string {
	for k := len(lines) - 1; k >= 0; k-- {
		if lines[k] == "clear" {
			return lines[k+1:]
		}
	}
	return lines
}

// sourceOf is the source that lines put there.
func sourceOf(lines []string) string {
	src := ""
	for _, line := range since(lines) {
		if strings.HasPrefix(line, "|") {
			src += line[1:] + "\n"
		}
	}
	return src
}

// lastOf are the numbers of the last line that begins with a word; what is there at first, if there is none.
func lastOf(lines []string, word string, first ...int) []int {
	for _, line := range since(lines) {
		if fields := strings.Fields(line); isLine(line) && !strings.HasPrefix(line, "|") && fields[0] == word {
			first = nil
			for _, field := range fields[1:] {
				n, _ := strconv.Atoi(field)
				first = append(first, n)
			}
		}
	}
	return first
}

var quotes = strings.NewReplacer(`\`, `\\`, `"`, `\"`, "\n", `\n`)

func endOf(o api.Outcome, why string) string {
	output := `"` + quotes.Replace(o.Output) + `"`
	return why + [...]string{"running", "exited " + output, "fatal " + output + " " + o.Why, "memory " + output}[o.State] + "\n"
}

// said is what a line is answered behind others. It looks back at all of them, and keeps nothing.
func said(ahead []string, line string) string {
	src := sourceOf(ahead)
	n, _ := strconv.Atoi(line[1+strings.LastIndex(line, " "):])
	told := func(fault api.Fault, answer string) string {
		if fault != (api.Fault{}) {
			return drive.Explain(src, fault) + "\n"
		}
		return answer
	}
	switch word, _, _ := strings.Cut(line, " "); {
	case !isLine(line):
		return "error\n"
	case line == "check":
		u, fault := check.Check(src)
		return told(fault, "ok funcs "+strconv.Itoa(len(u.Funcs))+" vars "+strconv.Itoa(len(u.Vars))+" structs "+strconv.Itoa(len(u.Structs))+"\n")
	case line == "show":
		tree, fault := parse.Parse(src)
		shown := "|" + strings.ReplaceAll(print.File(tree), "\n", "\n|")
		return told(fault, shown[:len(shown)-1])
	case word == "run":
		r, fault := drive.Run(src, api.Config{Script: lastOf(ahead, "schedule"), Force: lastOf(ahead, "force"), Words: lastOf(ahead, "words", 4096)[0], Fuel: n * 1000})
		return told(fault, endOf(r.Outcome, ""))
	case word == "walk":
		o, fault := drive.Walk(src, lastOf(ahead, "schedule"), n*1000)
		return told(fault, endOf(o, ""))
	}
	return "ok\n"
}

// isHistory holds a script's answer against what its lines are answered one by one.
func isHistory(t *testing.T, text string) string {
	t.Helper()
	lines := strings.Split(text, "\n")
	if lines[len(lines)-1] == "" {
		lines = lines[:len(lines)-1]
	}
	want := ""
	for k, line := range lines {
		want += said(lines[:k], line)
	}
	if got := answered(t, text); got != want {
		t.Fatalf("%q\n%q\nnot\n%q", text, got, want)
	}
	return want
}

// pieces are lines of sources, of which many together are right.
var pieces = [][]string{
	{"|func main() { print(6*7) }"},
	{"|type T struct {", "|a int", "|n *T", "|}", "|func main() {", "|var g *T", "|for i := 0; i < 600; i++ { g = &T{a: i, n: g} }", "|print(g.a, \"\\n\")", "|}"},
	{"|func main() {", "|c := make(chan int)", "|for i := 0; i < 4; i++ {", "|go func() { print(i); c <- i }()", "|}", "|for i := 0; i < 4; i++ { print(\" \", <-c) }", "|}"},
	{"|func main() {", "|s := \"\\\"\\\\\"", "|for i := 0; i < 8; i++ { s += s }", "|print(s)", "|x := len(s)", "|print(x / (x - 512))", "|}"},
	{"|func f(n int) int {", "|if n == 0 { return 0 }", "|return 1 + f(n-1)", "|}", "|func main() { print(f(30), f(70)) }"},
	{"|func main() { for { a := make([]int, 60); a[0] = 1 } }"},
	{"|func main() { c := make(chan int); print(\"w\"); <-c }"},
	{"|func main() { x := nil }"}, {"|func main() { 1 }"}, {"|#"}, {"|// a comment"}, {"|"}, {"|var v int"},
}

// someLine is a line that asks, sets, or is an error.
func someLine(chance *rand.Rand) string {
	numbers := func(most int) string {
		text := ""
		for range chance.Intn(most + 1) {
			text += " " + strconv.Itoa(chance.Intn(40)-3)
		}
		return text
	}
	n := strconv.Itoa(chance.Intn(40))
	lines := []string{"clear", "check", "show", "schedule" + numbers(30), "force" + numbers(30), "words " + strconv.Itoa(64*chance.Intn(20)), "words " + strconv.Itoa(128+chance.Intn(60)), "words 4096", "run " + n, "walk " + n, "run 99", "walk 99", "hm", "schedule 01", "words", "run"}
	line := lines[chance.Intn(len(lines))]
	if chance.Intn(8) == 0 {
		line = strings.ReplaceAll(near(chance, line), "\n", "")
	}
	return line
}

// someScript is a script of sources, whole or not, and lines that ask.
func someScript(chance *rand.Rand) string {
	var lines []string
	for range 1 + chance.Intn(4) {
		if chance.Intn(2) == 0 {
			lines = append(lines, "clear")
		}
		for _, line := range pieces[chance.Intn(len(pieces))] {
			if chance.Intn(25) > 0 {
				lines = append(lines, line)
			}
		}
		for range chance.Intn(10) {
			lines = append(lines, someLine(chance))
		}
	}
	return strings.Join(lines, "\n") + []string{"", "\n"}[chance.Intn(2)]
}

// TestScriptsByChance holds scripts against the second way of answering them, and that they have answers of all sorts.
func TestScriptsByChance(t *testing.T) {
	all := ""
	for seed := range 3000 {
		all += isHistory(t, someScript(rand.New(rand.NewSource(int64(seed)))))
	}
	for part, times := range map[string]int{"ok\n": 5000, "error\n": 1000, "ok funcs": 200, "|func": 200, "running": 200, "exited \"42\"": 200, "panic: divide": 100, "stack overflow": 100, "asleep": 100, "memory \"\"": 50, "types": 300, "syntax: line": 300, "lexical: line": 100} {
		if n := strings.Count(all, part); n < times {
			t.Errorf("%q: %d", part, n)
		}
	}
}
