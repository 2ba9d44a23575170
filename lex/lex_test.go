package lex

import (
	"errors"
	"slices"
	"strconv"
	"strings"
	"testing"

	"derrick/api"
)

const (
	allWords = "append bool break cap case chan close continue default defer else fallthrough false for func go if int len make new nil panic print recover return select string struct switch true type var"
	allMarks = ":= == != <= >= && || <- ++ -- += -= *= ( ) [ ] { } , ; : . = < > + - * / % ! &"
	// Behind these a line's end is a semicolon; behind the other words and marks it isn't.
	endingWords = "break continue fallthrough return true false nil int bool string"
	endingMarks = "++ -- ) ] }"
)

// show writes tokens one by one as kind:text:num:at.
func show(tokens []api.Token) string {
	var parts []string
	for _, t := range tokens {
		parts = append(parts, strings.Join([]string{strconv.Itoa(t.Kind), t.Text, strconv.Itoa(t.Num), strconv.Itoa(t.At)}, ":"))
	}
	return strings.Join(parts, " ")
}

func wantTokens(t *testing.T, src, want string) {
	t.Helper()
	tokens, fault := Scan(src)
	if got := show(tokens); got != want || fault != (api.Fault{}) {
		t.Errorf("%.60q: %.200q %v, not %.200q", src, got, fault, want)
	}
}

func wantFault(t *testing.T, src string, stage, at int) {
	t.Helper()
	tokens, fault := Scan(src)
	if want := (api.Fault{Stage: stage, At: at}); fault != want || len(tokens) != 0 {
		t.Errorf("%.60q: %d tokens, %v, not %v", src, len(tokens), fault, want)
	}
}

func TestChapterExamples(t *testing.T) {
	wantTokens(t, "a := 1\n", "1:a:0:0 5::=:0:2 2:1:1:5 5:;:1:6 6::0:7")
	wantTokens(t, "x // y", "1:x:0:0 5:;:1:6 6::0:6")
	wantTokens(t, "f(\n)", "1:f:0:0 5:(:0:1 5:):0:3 5:;:1:4 6::0:4")
	wantFault(t, "12a", api.Lexical, 2)
	wantFault(t, "007", api.Lexical, 0)
	wantFault(t, `"ab`, api.Lexical, 3)
	wantFault(t, "#", api.Lexical, 0)
	wantFault(t, `"\t"`, api.Lexical, 1)
}

func TestOrdinarySource(t *testing.T) {
	src := "func main() {\n\tfor i := 0; i < 3; i++ {\n\t\tc <- \"a\\n\" // sent\n\t}\n}\n"
	wantTokens(t, src, "4:func:0:0 1:main:0:5 5:(:0:9 5:):0:10 5:{:0:12"+
		" 4:for:0:15 1:i:0:19 5::=:0:21 2:0:0:24 5:;:0:25 1:i:0:27 5:<:0:29 2:3:3:31 5:;:0:32 1:i:0:34 5:++:0:35 5:{:0:38"+
		" 1:c:0:42 5:<-:0:44 3:a\n:0:47 5:;:1:60 5:}:0:62 5:;:1:63 5:}:0:64 5:;:1:65 6::0:66")
}

func TestNothing(t *testing.T) {
	wantTokens(t, "", "6::0:0")
	wantTokens(t, " \t\n\n \n", "6::0:6")
	wantTokens(t, "// only a remark", "6::0:16")
	wantTokens(t, "// one\n//two\n", "6::0:13")
}

func TestIsWord(t *testing.T) {
	words := strings.Fields(allWords)
	if len(words) != 33 {
		t.Fatal(len(words), "words in the test")
	}
	for _, w := range words {
		if !IsWord(w) {
			t.Errorf("%q is a word", w)
		}
		for _, other := range []string{strings.ToUpper(w), strings.ToUpper(w[:1]) + w[1:], w + "s", "_" + w, w + " ", " " + w, w + "\n", w + "\x00", w + w} {
			if IsWord(other) {
				t.Errorf("%q is no word", other)
			}
		}
		for n := range len(w) {
			if IsWord(w[:n]) != slices.Contains(words, w[:n]) || IsWord(w[n+1:]) != slices.Contains(words, w[n+1:]) {
				t.Errorf("parts of %q at %d", w, n)
			}
		}
	}
	for _, n := range []string{"", "x", "main", "struct{}", "interface", "map", "range", "import", "package", "const", "goto", "delete", "copy", "error", ":=", "é", "\xff", strings.Repeat("go", 1<<16)} {
		if IsWord(n) {
			t.Errorf("%.20q is no word", n)
		}
	}
}

func TestNamesAndWords(t *testing.T) {
	for _, w := range strings.Fields(allWords) {
		wantTokens(t, w+";", "4:"+w+":0:0 5:;:0:"+strconv.Itoa(len(w))+" 6::0:"+strconv.Itoa(len(w)+1))
		for _, n := range []string{w + "1", w + "_", "_" + w, strings.ToUpper(w)} {
			wantTokens(t, n+";", "1:"+n+":0:0 5:;:0:"+strconv.Itoa(len(n))+" 6::0:"+strconv.Itoa(len(n)+1))
		}
	}
	wantTokens(t, "_ a0Z9_ z;", "1:_:0:0 1:a0Z9_:0:2 1:z:0:8 5:;:0:9 6::0:10")
	wantTokens(t, "AZaz09 Q;", "1:AZaz09:0:0 1:Q:0:7 5:;:0:8 6::0:9")
}

func TestNameLimit(t *testing.T) {
	name := strings.Repeat("aB3_", api.MaxName/4)
	wantTokens(t, name, "1:"+name+":0:0 5:;:1:24 6::0:24")
	wantFault(t, name+"x", api.Lexical, 0)
	wantFault(t, name+"0", api.Lexical, 0)
	wantFault(t, "a\n "+name+"_ #", api.Lexical, 3)
	wantTokens(t, name+" x", "1:"+name+":0:0 1:x:0:25 5:;:1:26 6::0:26")
}

func TestInts(t *testing.T) {
	wantTokens(t, "0 7 10 908;", "2:0:0:0 2:7:7:2 2:10:10:4 2:908:908:7 5:;:0:10 6::0:11")
	wantTokens(t, "1.5", "2:1:1:0 5:.:0:1 2:5:5:2 5:;:1:3 6::0:3")
	wantTokens(t, "-3", "5:-:0:0 2:3:3:1 5:;:1:2 6::0:2")
	wantTokens(t, `1"x"`, "2:1:1:0 3:x:0:1 5:;:1:4 6::0:4")
	for _, src := range []string{"00", "01", "0123", "007x", "00#"} {
		wantFault(t, src, api.Lexical, 0)
	}
	for _, c := range "azAZ_" {
		wantFault(t, "0"+string(c), api.Lexical, 1)
		wantFault(t, " 120"+string(c)+"#", api.Lexical, 4)
	}
	wantFault(t, "0x1f", api.Lexical, 1)
	wantFault(t, "1_000", api.Lexical, 1)
	wantFault(t, "x = 1e9", api.Lexical, 5)
}

func TestIntLimit(t *testing.T) {
	nines := strings.Repeat("9", api.MaxDigits)
	wantTokens(t, nines, "2:"+nines+":"+nines+":0 5:;:1:18 6::0:18")
	wantTokens(t, "100000000000000000;", "2:100000000000000000:100000000000000000:0 5:;:0:18 6::0:19")
	wantFault(t, nines+"9", api.Lexical, 0)
	wantFault(t, "x = 1"+nines, api.Lexical, 4)
	wantFault(t, " "+nines+"9a", api.Lexical, 1) // too many digits stand ahead of the letter
	wantFault(t, nines+"a", api.Lexical, 18)
	wantFault(t, strings.Repeat("1", 8000), api.Lexical, 0)
}

func TestStrs(t *testing.T) {
	wantTokens(t, `"" "a b" "\n\"\\";`, "3::0:0 3:a b:0:3 3:\n\"\\:0:9 5:;:0:17 6::0:18")
	wantTokens(t, `"a""b";`, "3:a:0:0 3:b:0:3 5:;:0:6 6::0:7")
	wantTokens(t, `"//" "\\n";`, "3://:0:0 3:\\n:0:5 5:;:0:10 6::0:11")
	for c := range 256 {
		src := "x \"q" + string([]byte{byte(c)}) + "\";"
		switch {
		case c == '"': // an empty rest, and a quote that opens another
			wantFault(t, src, api.Lexical, len(src))
		case c == '\\': // an escaped quote
			wantFault(t, src, api.Lexical, len(src))
		case c >= 32 && c <= 126:
			wantTokens(t, src, "1:x:0:0 3:q"+string(rune(c))+":0:2 5:;:0:6 6::0:7")
		default:
			wantFault(t, src, api.Lexical, 4)
		}
	}
}

func TestEscapes(t *testing.T) {
	for c := range 256 {
		src := "\"ab\\" + string([]byte{byte(c)}) + "\";"
		switch c {
		case 'n':
			wantTokens(t, src, "3:ab\n:0:0 5:;:0:6 6::0:7")
		case '"', '\\':
			if c == '"' {
				wantFault(t, `"ab\";`, api.Lexical, 6)
			}
			wantTokens(t, src[:5]+`";`, "3:ab"+string(rune(c))+":0:0 5:;:0:6 6::0:7")
		default:
			wantFault(t, src, api.Lexical, 3)
		}
	}
}

func TestStrsThatDoNotEnd(t *testing.T) {
	for src, at := range map[string]int{
		`"`: 1, `x "ab`: 5, `"ab\n`: 5, `"ab\"`: 5, `"ab\\`: 5,
		`"ab\`:      3, // the \ is none of the three
		"\"ab\n\"":  3,
		"\"ab// \n": 6,
		"\"a\tb\"":  2,
		"\"é\"":     1,
		`"a" "b`:    6,
	} {
		wantFault(t, src, api.Lexical, at)
	}
}

func TestTextLimit(t *testing.T) {
	full := strings.Repeat("a", api.MaxText)
	wantTokens(t, `"`+full+`";`, "3:"+full+":0:0 5:;:0:258 6::0:259")
	wantFault(t, `"`+full+`a"`, api.Lexical, 0)
	wantFault(t, `x+"`+full+`\n"#`, api.Lexical, 2)
	// What counts is the bytes that are meant, not those that are written.
	wantTokens(t, `"`+strings.Repeat(`\n`, api.MaxText)+`";`, "3:"+strings.Repeat("\n", api.MaxText)+":0:0 5:;:0:514 6::0:515")
	wantFault(t, `"`+strings.Repeat(`\\`, api.MaxText+1)+`"`, api.Lexical, 0)
	// The byte that may not stand there and the lack of an end are named ahead of the length.
	wantFault(t, `"`+full+"a\n", api.Lexical, 258)
	wantFault(t, `"`+full+`a\t"`, api.Lexical, 258)
	wantFault(t, `"`+full+"a", api.Lexical, 258)
}

func TestMarks(t *testing.T) {
	for _, m := range strings.Fields(allMarks) {
		end := strconv.Itoa(len(m))
		after := strconv.Itoa(len(m) + 1)
		wantTokens(t, m+" go", "5:"+m+":0:0 4:go:0:"+after+" 6::0:"+strconv.Itoa(len(m)+3))
		wantTokens(t, m+"go", "5:"+m+":0:0 4:go:0:"+end+" 6::0:"+strconv.Itoa(len(m)+2))
	}
}

func TestLongestMark(t *testing.T) {
	marks := strings.Fields(allMarks)
	bytes := "()[]{},;:.=<>+-*/%!&|"
	for _, a := range bytes {
		for _, b := range bytes {
			two := string(a) + string(b)
			switch {
			case two == "//":
				wantTokens(t, two+"go", "6::0:4")
			case slices.Contains(marks, two):
				wantTokens(t, two+" go", "5:"+two+":0:0 4:go:0:3 6::0:5")
			case a == '|':
				wantFault(t, two+" go", api.Lexical, 0)
			case b == '|':
				wantFault(t, two+" go", api.Lexical, 1)
			default:
				wantTokens(t, two+" go", "5:"+string(a)+":0:0 5:"+string(b)+":0:1 4:go:0:3 6::0:5")
			}
		}
	}
	wantTokens(t, "+++=go", "5:++:0:0 5:+=:0:2 4:go:0:4 6::0:6")
	wantTokens(t, "<--go", "5:<-:0:0 5:-:0:2 4:go:0:3 6::0:5")
	wantTokens(t, "===go", "5:==:0:0 5:=:0:2 4:go:0:3 6::0:5")
	wantTokens(t, "&&&go", "5:&&:0:0 5:&:0:2 4:go:0:3 6::0:5")
	wantTokens(t, "/ /go", "5:/:0:0 5:/:0:2 4:go:0:3 6::0:5")
	wantFault(t, "a |||", api.Lexical, 4)
}

// TestSemicolons lays each token at a line's end in all its forms.
func TestSemicolons(t *testing.T) {
	ending := map[string]bool{"x": true, "0": true, "12": true, `""`: true, `"go"`: true}
	for _, w := range strings.Fields(allWords + " " + allMarks) {
		ending[w] = false
	}
	for _, w := range strings.Fields(endingWords + " " + endingMarks) {
		ending[w] = true
	}
	for token, ends := range ending {
		for _, tail := range []string{"", "\n", " \t", " \n", "\n\n \n", " // \"remark", " //\n", "\t// x := (\n"} {
			src := token + tail
			tokens, fault := Scan(src)
			if fault != (api.Fault{}) {
				t.Fatalf("%q: %v", src, fault)
			}
			at := strings.IndexByte(src+"\n", '\n')
			want := []api.Token{tokens[0]}
			if ends {
				want = append(want, api.Token{Kind: api.Mark, Text: ";", Num: 1, At: at})
			}
			want = append(want, api.Token{Kind: api.End, At: len(src)})
			if !slices.Equal(tokens, want) {
				t.Errorf("%q: %v, not %v", src, tokens, want)
			}
		}
	}
}

func TestSemicolonsOfLines(t *testing.T) {
	wantTokens(t, "go\nbreak\n", "4:go:0:0 4:break:0:3 5:;:1:8 6::0:9")
	wantTokens(t, "nil;\n;", "4:nil:0:0 5:;:0:3 5:;:0:5 6::0:6")
	wantTokens(t, "a\n\n\n", "1:a:0:0 5:;:1:1 6::0:4")
	wantTokens(t, "a +\nb", "1:a:0:0 5:+:0:2 1:b:0:4 5:;:1:5 6::0:5")
	wantTokens(t, "{\n}\n// end", "5:{:0:0 5:}:0:2 5:;:1:3 6::0:10")
	wantTokens(t, "a b", "1:a:0:0 1:b:0:2 5:;:1:3 6::0:3") // only the last token of a line counts
	wantTokens(t, "a (", "1:a:0:0 5:(:0:2 6::0:3")
	wantTokens(t, "a\n  ", "1:a:0:0 5:;:1:1 6::0:4")
}

func TestComments(t *testing.T) {
	wantTokens(t, "a // #é\x00\xff\"\r|\nb", "1:a:0:0 5:;:1:13 1:b:0:14 5:;:1:15 6::0:15")
	wantTokens(t, "( // (((\n)", "5:(:0:0 5:):0:9 5:;:1:10 6::0:10")
	wantTokens(t, "a//", "1:a:0:0 5:;:1:3 6::0:3")
	wantTokens(t, "a///\n/b", "1:a:0:0 5:;:1:4 5:/:0:5 1:b:0:6 5:;:1:7 6::0:7")
	wantTokens(t, "/*/", "5:/:0:0 5:*:0:1 5:/:0:2 6::0:3")
	// No bracket of a remark or a text counts, however many there are.
	if _, fault := Scan(strings.Repeat(`"(" "[" "{" `, 50) + strings.Repeat("(", api.MaxNest)); fault != (api.Fault{}) {
		t.Error(fault)
	}
	wantFault(t, strings.Repeat(`(")"`, api.MaxNest+1), api.TooDeep, 4*api.MaxNest)
	wantTokens(t, "//"+strings.Repeat("(", 100), "6::0:102")
	wantTokens(t, `"`+strings.Repeat("{", 100)+`";`, "3:"+strings.Repeat("{", 100)+":0:0 5:;:0:102 6::0:103")
}

func TestBytesThatBeginNothing(t *testing.T) {
	begins := "\t\n abcdefghijklmnopqrstuvwxyzABCDEFGHIJKLMNOPQRSTUVWXYZ_0123456789()[]{},;:.=<>+-*/%!&"
	for c := range 256 {
		one := string([]byte{byte(c)})
		switch {
		case c == '"':
			wantFault(t, " "+one, api.Lexical, 2)
		case strings.Contains(begins, one):
			if _, fault := Scan(" " + one); fault != (api.Fault{}) {
				t.Errorf("%q: %v", one, fault)
			}
		default:
			wantFault(t, one, api.Lexical, 0)
			wantFault(t, "a := 1\n"+one+"\n#", api.Lexical, 7)
			wantFault(t, "a"+one, api.Lexical, 1)
		}
	}
}

func TestSourceLimit(t *testing.T) {
	blanks := strings.Repeat(" ", api.MaxSource)
	wantTokens(t, blanks, "6::0:8192")
	wantTokens(t, blanks[1:]+"x", "1:x:0:8191 5:;:1:8192 6::0:8192")
	wantFault(t, blanks+" ", api.TooBig, api.MaxSource)
	wantFault(t, blanks+"\n", api.TooBig, api.MaxSource)
	wantFault(t, "#"+blanks, api.TooBig, api.MaxSource) // ahead of every other fault
	wantFault(t, strings.Repeat("(", 3*api.MaxSource), api.TooBig, api.MaxSource)
	wantFault(t, strings.Repeat("\xff", 1<<20), api.TooBig, api.MaxSource)
	wantFault(t, blanks[1:]+"#", api.Lexical, 8191)
	semis := strings.Repeat(";", api.MaxSource)
	if tokens, fault := Scan(semis); len(tokens) != api.MaxSource+1 || fault != (api.Fault{}) {
		t.Error(len(tokens), fault)
	}
	lines := strings.Repeat("a\n", api.MaxSource/2)
	if tokens, fault := Scan(lines); len(tokens) != api.MaxSource+1 || fault != (api.Fault{}) {
		t.Error(len(tokens), fault)
	}
}

func TestDepthLimit(t *testing.T) {
	for _, open := range []string{"(", "[", "{"} {
		full := strings.Repeat(open, api.MaxNest)
		for _, right := range []string{full, full + ")", full + "]" + open, full + "}}" + open + open, strings.Repeat(")]}", 50) + full, full + ")" + open + "]" + open + "}" + open} {
			if _, fault := Scan(right); fault != (api.Fault{}) {
				t.Errorf("%q: %v", right, fault)
			}
		}
		for _, one := range []string{"(", "[", "{"} {
			wantFault(t, full+one, api.TooDeep, api.MaxNest)
			wantFault(t, full+one+")))((((", api.TooDeep, api.MaxNest)
			wantFault(t, full+" ] \n"+open+one, api.TooDeep, api.MaxNest+5)
			wantFault(t, strings.Repeat("}", 60)+full+one, api.TooDeep, api.MaxNest+60)
		}
	}
	if _, fault := Scan(strings.Repeat("()[]{}", 500) + strings.Repeat("([", 20)); fault != (api.Fault{}) {
		t.Error(fault)
	}
}

func TestWhichFaultIsFirst(t *testing.T) {
	deep := strings.Repeat("(", api.MaxNest+1)
	wantFault(t, deep+"\n x #", api.Lexical, 45) // Lexical goes ahead of TooDeep wherever it stands
	wantFault(t, deep+`"`, api.Lexical, 42)
	wantFault(t, "# "+deep, api.Lexical, 0)
	wantFault(t, "a # 007", api.Lexical, 2)
	wantFault(t, "a 007 #", api.Lexical, 2)
	wantFault(t, `"a`+"\n"+`" #`, api.Lexical, 2)
	wantFault(t, "9z 007", api.Lexical, 1)
	wantFault(t, strings.Repeat("a", 25)+"\n#", api.Lexical, 0)
	wantFault(t, "@"+strings.Repeat("a", 25), api.Lexical, 0)
}

// TestAnswersShareNothing writes over one answer, its spare room too, and looks at another.
func TestAnswersShareNothing(t *testing.T) {
	src := "a := f(1, \"x\")\n"
	first, _ := Scan(src)
	second, _ := Scan(src)
	want := show(second)
	first = first[:cap(first)]
	for i := range first {
		first[i] = api.Token{Kind: 99, Text: "over", Num: 99, At: 99}
	}
	if got := show(second); got != want {
		t.Errorf("%q, not %q", got, want)
	}
	wantTokens(t, src, want)
}

// TestStuckIsWrapped asks for the error that the scanner stops with: the place within the part that was read.
func TestStuckIsWrapped(t *testing.T) {
	for src, want := range map[string]string{
		"x 007":                        "number: nothing goes on at 2",
		"9z":                           "number: nothing goes on at 1",
		`"a`:                           "text: nothing goes on at 2",
		strings.Repeat("a", 25):        "name: nothing goes on at 0",
		"a\n|":                         "mark: nothing goes on at 2",
		"\n" + strings.Repeat("(", 99): "",
	} {
		s := scanner{src: src}
		err := s.scan()
		if want == "" {
			if err != nil {
				t.Errorf("%q: %v", src, err)
			}
			continue
		}
		var place stuck
		if !errors.As(err, &place) || err.Error() != want {
			t.Errorf("%q: %v, not %q", src, err, want)
		}
		if err == error(place) {
			t.Errorf("%q: not wrapped", src)
		}
	}
}
