package script_test

import (
	"strings"
	"testing"

	"derrick/api"
)

// TestFaults asks check, show, run and walk of sources with a fault of each stage: show tells those of layer 2 alone.
func TestFaults(t *testing.T) {
	deep := "func main() { x := " + strings.Repeat("(", api.MaxNest-1)
	for _, x := range []struct{ src, fault, shown string }{
		{"#", "lexical: line 1, byte 1\n", ""},
		{"a\n#", "lexical: line 2, byte 1\n", ""},
		{"|", "lexical: line 1, byte 1\n", ""},
		{"func main() { print(007) }", "lexical: line 1, byte 21\n", ""},
		{"func main() {\n\tprint(\"a\tb\")\n}", "lexical: line 2, byte 10\n", ""},
		{"func main() { print(\"ab) }", "lexical: line 1, byte 27\n", ""},
		{"\n\n  x$\n", "lexical: line 3, byte 4\n", ""},
		{"func main() { }\n//\n" + strings.Repeat("a", api.MaxName+1), "lexical: line 3, byte 1\n", ""},
		{"func main() {\r\n}", "lexical: line 1, byte 14\n", ""},
		{deep + "(", "too deep: line 1, byte 59\n", ""},
		{"// (((\n" + deep + "(1", "too deep: line 2, byte 59\n", ""},
		{deep + "1", "syntax: line 1, byte 60\n", ""},
		{"x := 1", "syntax: line 1, byte 1\n", ""},
		{"func", "syntax: line 2, byte 1\n", ""},
		{"func main() { go f }", "syntax: line 1, byte 20\n", ""},
		{"func main() {\n\ta + b\n}", "syntax: line 2, byte 4\n", ""},
		{"func main() { }\nfunc f() { 1 }\n", "syntax: line 2, byte 14\n", ""},
		{"func main() {", "syntax: line 2, byte 1\n", ""},
		{"func f() { }", "types\n", "|func f() {\n|}\n"},
		{"func main() { return 1 }", "types\n", "|func main() {\n|\treturn 1\n|}\n"},
		{"func main() { x := nil }\n", "types\n", "|func main() {\n|\tx := nil\n|}\n"},
		{"var a int\nvar a int", "types\n", "|var a int\n|var a int\n"},
	} {
		shown := x.shown
		if shown == "" {
			shown = x.fault
		}
		does(t, x.src, "check\nshow\nrun 9\nwalk 9\nrun 0\nwalk 0\n", x.fault+shown+strings.Repeat(x.fault, 4))
	}
}

// TestSourcesWithoutAnything has no line, or comments and blanks alone: there is no main, and nothing to show.
func TestSourcesWithoutAnything(t *testing.T) {
	for _, lines := range [][]string{{}, {"|"}, {"|", "|", "|"}, {"|// nothing"}, {"| \t ", "|//"}, {"|//|//"}, {"|// #\x00\xff\r", "|"}} {
		asked := append(lines, "show", "check", "run 1", "walk 1")
		answers(t, strings.Join(asked, "\n"), oks(len(lines))+"types\ntypes\ntypes\n")
	}
}

// TestTooBig has sources of MaxSource bytes, line ends with them, and of one more.
func TestTooBig(t *testing.T) {
	const main = "func main() { print(1) }\n//"
	rest := strings.Repeat("x", api.MaxSource-len(main)-1)
	does(t, main+rest, "check\nrun 1\nwalk 1\nshow\n", "ok funcs 1 vars 0 structs 0\nexited \"1\"\nexited \"1\"\n|func main() {\n|\tprint(1)\n|}\n")
	does(t, main+rest+"x", "check\nrun 1\nwalk 1\nshow\n", strings.Repeat("too big\n", 4))
	does(t, main+rest, "|\ncheck\nshow\nclear\nshow\n", "ok\ntoo big\ntoo big\nok\n")
	does(t, main+rest+"#", "check\n|#\nshow\n", "too big\nok\ntoo big\n")
	does(t, "#"+main+rest, "show\n", "too big\n")
	half := strings.Repeat("/", api.MaxSource/2-1)
	answers(t, "|"+half+"\n|"+half+"\nshow\ncheck\n|\nshow\ncheck\n", oks(2)+"types\n"+"ok\ntoo big\ntoo big\n")
}

// TestCheck counts functions, variables and structs.
func TestCheck(t *testing.T) {
	for src, want := range map[string]string{
		"func main() { }":                                       "funcs 1 vars 0 structs 0",
		"func main() { x := 1; print(x) }":                      "funcs 1 vars 1 structs 0",
		"func f(a int, b bool) { }\nfunc main() { f(1, true) }": "funcs 2 vars 2 structs 0",
		"type T struct { }\nfunc main() { }":                    "funcs 1 vars 0 structs 1",
		"type T struct { a int; b *U; }\ntype U struct { }\nvar g *T\nvar h []*U\nfunc main() { f := func(x int) { var y int; y = x }; f(1) }": "funcs 2 vars 5 structs 2",
	} {
		does(t, src, "check\n", "ok "+want+"\n")
	}
	many := "func main() { }"
	for k := range api.MaxFuncs - 1 {
		many += "\nfunc f" + strings.Repeat("x", k%20) + strings.Repeat("y", k/20) + "() { }"
	}
	does(t, many, "check\n|func z() { }\ncheck\n", "ok funcs 100 vars 0 structs 0\nok\ntypes\n")
	does(t, "func main() { "+strings.Repeat("{ x := 1 }; ", api.MaxVars)+"}", "check\n|var g int\ncheck\n", "ok funcs 1 vars 200 structs 0\nok\ntypes\n")
}

// TestShow shows sources, and puts what is shown there in their place: it is shown again.
func TestShow(t *testing.T) {
	for src, want := range map[string]string{
		"func main(){x:=1+2*y;if x>3{return}}":                          "|func main() {\n|\tx := (1 + (2 * y))\n|\tif (x > 3) {\n|\t\treturn\n|\t}\n|}\n",
		"type T struct {\na int\n}\nvar g *T\n\n// no\nfunc main() { }": "|type T struct {\n|\ta int\n|}\n|var g *T\n|func main() {\n|}\n",
		"func main() { print(\"a\\nb\\\"\\\\|\") }":                     "|func main() {\n|\tprint(\"a\\nb\\\"\\\\|\")\n|}\n",
		"func main() { f := func() {\nfor { } } }":                      "|func main() {\n|\tf := func() {\n|\t\tfor {\n|\t\t}\n|\t}\n|}\n",
		"var a int\n\n\nvar b []chan int":                               "|var a int\n|var b []chan int\n",
	} {
		does(t, src, "show\n", want)
		does(t, src, "show\nclear\n"+want+"show\n", want+"ok\n"+oks(strings.Count(want, "\n"))+want)
	}
}

// TestTheSourceGrows has lines that are put behind the others, between lines that ask.
func TestTheSourceGrows(t *testing.T) {
	answers(t, "check\n|func main() {\ncheck\n|print(1)\nshow\n|}\ncheck\nshow\nrun 1\n|func f() { }\ncheck\nwalk 1\n|}\ncheck\nrun 1\nshow\nclear\nshow\ncheck\n",
		"types\nok\nsyntax: line 2, byte 1\nok\nsyntax: line 3, byte 1\nok\nok funcs 1 vars 0 structs 0\n|func main() {\n|\tprint(1)\n|}\nexited \"1\"\nok\nok funcs 2 vars 0 structs 0\nexited \"1\"\nok\n"+
			strings.Repeat("syntax: line 5, byte 1\n", 3)+"ok\ntypes\n")
	answers(t, "|func\n| main()\n|{ }\ncheck\n", oks(3)+"syntax: line 2, byte 8\n")
	answers(t, "|func main() { print(\"a\n|b\") }\ncheck\n", oks(2)+"lexical: line 1, byte 23\n")
	answers(t, "|func main() { x := 1 // }\n|print(x) }\nrun 1\n", oks(2)+"exited \"1\"\n")
}

// TestBytesOfAllKinds puts each byte into a source, at a line's end and within a comment.
func TestBytesOfAllKinds(t *testing.T) {
	for b := range 256 {
		c := string([]byte{byte(b)})
		if c == "\n" {
			continue
		}
		answers(t, "|func main() { } //"+c+"\ncheck\n", "ok\nok funcs 1 vars 0 structs 0\n")
		want := "lexical: line 2, byte 1\n"
		switch {
		case c == " ", c == "\t":
			want = "ok funcs 1 vars 0 structs 0\n"
		case c == "\"":
			want = "lexical: line 2, byte 2\n"
		case b >= '1' && b <= '9', c == "0", strings.Contains("_()[]{},;:.=<>+-*/%!&", c), b >= 'a' && b <= 'z', b >= 'A' && b <= 'Z':
			want = "syntax: line 2, byte 1\n"
		}
		answers(t, "|func main() { }\n|"+c+"\ncheck\n", "ok\nok\n"+want)
	}
}
