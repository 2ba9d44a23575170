package script_test

import (
	"strings"
	"testing"

	"derrick/script"
)

// answered is what a script is answered, which has to be one.
func answered(t *testing.T, text string) string {
	t.Helper()
	answer, ok := script.Run(text)
	if !ok {
		t.Fatalf("%q is no script", text)
	}
	return answer
}

// answers holds a script's answer against what is wanted.
func answers(t *testing.T, text, want string) {
	t.Helper()
	if got := answered(t, text); got != want {
		t.Errorf("%q\n%q\nnot\n%q", text, got, want)
	}
}

// put is a script that puts a source there, and clears what was there ahead.
func put(src string) string {
	return "clear\n|" + strings.ReplaceAll(src, "\n", "\n|") + "\n"
}

// oks are so many answers.
func oks(n int) string {
	return strings.Repeat("ok\n", n)
}

// does holds what a source is answered, behind lines that are all answered with ok.
func does(t *testing.T, src, lines, want string) {
	t.Helper()
	text := put(src)
	answers(t, text+lines, oks(strings.Count(text, "\n"))+want)
}

func TestTheChaptersExample(t *testing.T) {
	answers(t, "|func main() { print(6*7) }\ncheck\nrun 99\nhm\n", "ok\nok funcs 1 vars 0 structs 0\nexited \"42\"\nerror\n")
}

func TestTheTenExamplesOfTheWhole(t *testing.T) {
	for _, x := range [][2]string{
		{`x := 7; print(x*6, " ", x/2, " ", -x % 4)`, `exited "42 3 -3"`},
		{`s := "ab"; s += s; print(s[1:3], len(s), s[0])`, `exited "ba497"`},
		{`a := []int{1, 2}; b := append(a, 3); b[0] = 9; print(a[0], b[0], len(b), cap(b))`, `exited "1934"`},
		{`f := func(n int) func() int { return func() int { n++; return n } }; g := f(4); g(); print(g())`, `exited "6"`},
		{`c := make(chan int); go func() { for i := 0; i < 3; i++ { c <- i }; close(c) }(); print(<-c, <-c, <-c, <-c)`, `exited "0120"`},
		{`defer func() { print("!", recover()) }(); var a []int; print(a[0])`, `exited "!index out of range"`},
		{`switch 2 { case 1: print(1); case 2: print(2); fallthrough; default: print(9) }`, `exited "29"`},
		{`c := make(chan int); <-c`, `fatal "" fatal: all goroutines are asleep`},
		{`var f func(); f()`, `fatal "" panic: call of nil function`},
		{`for i := 0; i < 1000; i++ { s := make([]int, 50); s[0] = i }; print("ok")`, `exited "ok"`},
	} {
		src := "func main() { " + x[0] + " }"
		does(t, src, "words 1024\nrun 1000\nwalk 1000\n", "ok\n"+x[1]+"\n"+x[1]+"\n")
		does(t, strings.ReplaceAll(src, "; ", "\n"), "words 1024\nrun 1000\nwalk 1000\n", "ok\n"+x[1]+"\n"+x[1]+"\n")
	}
}

// TestWhatIsThereAtFirst asks it at the beginning, and behind a clear.
func TestWhatIsThereAtFirst(t *testing.T) {
	answers(t, "check\nshow\nrun 1\nwalk 1\n", "types\ntypes\ntypes\n")
	answers(t, "|#\nschedule 1\nforce 1\nwords 1\nclear\ncheck\nshow\nrun 1\nwalk 1\n", oks(5)+"types\ntypes\ntypes\n")
	answers(t, "clear\nclear\n", "ok\nok\n")
	answers(t, "", "")
}

// TestNothingIsKept runs scripts one behind the other, and at the same time: what one sets no other one finds.
func TestNothingIsKept(t *testing.T) {
	const setting = "|func main() { go print1(); print(2) }\n|func print1() { print(1) }\nwords 1\nschedule 1 1\nforce 1 2 3\nwalk 1\nrun 1\n"
	const asking = "run 1\n|func main() { go print1(); print(2) }\n|func print1() { print(1) }\nwalk 1\nrun 1\n"
	for k := range 4 {
		t.Run("", func(t *testing.T) {
			t.Parallel()
			for range 20 {
				if k%2 == 0 {
					answers(t, setting, oks(5)+"exited \"12\"\nmemory \"\"\n")
				}
				answers(t, asking, "types\nok\nok\nexited \"2\"\nexited \"2\"\n")
			}
		})
	}
}

// TestLinesEnd gives a script with and without a line end behind its last line.
func TestLinesEnd(t *testing.T) {
	answers(t, "clear", "ok\n")
	answers(t, "clear\n", "ok\n")
	answers(t, "clear\n\n", "ok\nerror\n")
	answers(t, "\n", "error\n")
	answers(t, "\nclear", "error\nok\n")
	answers(t, "\n\n", "error\nerror\n")
	answers(t, "clear\n ", "ok\nerror\n")
	answers(t, "|", "ok\n")
	answers(t, "|\n", "ok\n")
	answers(t, "clear\r\nclear\r", "error\nerror\n")
	answers(t, "clear\x00", "error\n")
}
