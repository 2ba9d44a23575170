package lex

import (
	"regexp"
	"slices"
	"strconv"
	"strings"
	"testing"

	"derrick/api"
)

// The chapter's tokens once more, as patterns, so that the scanner is held against something else than itself.
var (
	skipPattern   = regexp.MustCompile(`^(?:[ \t]|//[^\n]*)+`)
	namePattern   = regexp.MustCompile(`^[A-Za-z_][A-Za-z_0-9]*`)
	digitsPattern = regexp.MustCompile(`^[0-9]+`)
	partsPattern  = regexp.MustCompile(`^"(?:[ !#-\[\]-~]|\\[n"\\])*`)
	markPattern   = regexp.MustCompile(`^(?::=|==|!=|<=|>=|&&|\|\||<-|\+\+|--|\+=|-=|\*=|[()\[\]{},;:.=<>+*/%!&-])`)
	endPattern    = regexp.MustCompile(`^(?:1 .*|2 .*|3 .*|4 (?:break|continue|fallthrough|return|true|false|nil|int|bool|string)|5 (?:\+\+|--|\)|\]|\}))$`)
	unescape      = strings.NewReplacer(`\n`, "\n", `\"`, `"`, `\\`, `\`)
)

// refer scans by the patterns.
func refer(src string) ([]api.Token, api.Fault) {
	if len(src) > api.MaxSource {
		return nil, api.Fault{Stage: api.TooBig, At: api.MaxSource}
	}
	var all []api.Token
	at := 0
	for i, line := range strings.Split(src, "\n") {
		if i > 0 {
			at++
		}
		tokens, bad := referLine(line, at)
		if bad >= 0 {
			return nil, api.Fault{Stage: api.Lexical, At: bad}
		}
		all = append(all, tokens...)
		at += len(line)
		if n := len(tokens); n > 0 && endPattern.MatchString(strconv.Itoa(tokens[n-1].Kind)+" "+strings.ReplaceAll(tokens[n-1].Text, "\n", " ")) {
			all = append(all, api.Token{Kind: api.Mark, Text: ";", Num: 1, At: at})
		}
	}
	open := 0
	for _, t := range all {
		if t.Kind == api.Mark && strings.Contains("([{", t.Text) {
			open++
		} else if t.Kind == api.Mark && strings.Contains(")]}", t.Text) && open > 0 {
			open--
		}
		if open > api.MaxNest {
			return nil, api.Fault{Stage: api.TooDeep, At: t.At}
		}
	}
	return append(all, api.Token{Kind: api.End, At: len(src)}), api.Fault{}
}

// referLine scans a line that begins at the place; the second answer is where it can't go on, or -1.
func referLine(line string, at int) ([]api.Token, int) {
	var tokens []api.Token
	for line != "" {
		t := api.Token{At: at}
		size := len(skipPattern.FindString(line))
		if size == 0 {
			var bad int
			if t, size, bad = referToken(line, at); bad >= 0 {
				return nil, bad
			}
			tokens = append(tokens, t)
		}
		line, at = line[size:], at+size
	}
	return tokens, -1
}

func referToken(line string, at int) (api.Token, int, int) {
	if n := namePattern.FindString(line); n != "" {
		kind := api.Name
		if slices.Contains(strings.Fields(allWords), n) {
			kind = api.Word
		}
		return api.Token{Kind: kind, Text: n, At: at}, len(n), badIf(len(n) > api.MaxName, at)
	}
	if d := digitsPattern.FindString(line); d != "" {
		if len(d) > api.MaxDigits || d != "0" && d[0] == '0' {
			return api.Token{}, 0, at
		}
		num, _ := strconv.Atoi(d)
		return api.Token{Kind: api.Int, Text: d, Num: num, At: at}, len(d), badIf(namePattern.MatchString(line[len(d):]), at+len(d))
	}
	if p := partsPattern.FindString(line); p != "" {
		if !strings.HasPrefix(line[len(p):], `"`) {
			return api.Token{}, 0, at + len(p)
		}
		meant := unescape.Replace(p[1:])
		return api.Token{Kind: api.Str, Text: meant, At: at}, len(p) + 1, badIf(len(meant) > api.MaxText, at)
	}
	m := markPattern.FindString(line)
	return api.Token{Kind: api.Mark, Text: m, At: at}, len(m), badIf(m == "", at)
}

func badIf(bad bool, at int) int {
	if bad {
		return at
	}
	return -1
}

func compare(t *testing.T, src string) {
	t.Helper()
	got, gotFault := Scan(src)
	want, wantFault := refer(src)
	if !slices.Equal(got, want) || gotFault != wantFault {
		t.Fatalf("%q: %v %v, not %v %v", src, got, gotFault, want, wantFault)
	}
}

// TestAllShortSources goes through all sources of up to four of the pieces between which the rules choose.
func TestAllShortSources(t *testing.T) {
	pieces := []string{"a", "go", "nil", "0", "7", `"`, `\`, "n", "\n", " ", "/", "+", "=", "<", "-", "|", "&", ":", "(", "}", ";", "#", "\xc3"}
	var grow func(src string, left int)
	grow = func(src string, left int) {
		compare(t, src)
		for _, p := range pieces {
			if left > 0 {
				grow(src+p, left-1)
			}
		}
	}
	grow("", 4)
}

// TestLongSources joins up to ninety pieces, chosen by a rule of remainders.
func TestLongSources(t *testing.T) {
	pieces := []string{"a", "break", "x1 ", " 12 ", `"s\n"`, "\n", "\n\n", " ", "//c#\n", "++", "<-", ":=", "(", "[", "{", ")", "]", "}", ";", "if ", ",", strings.Repeat("n", 23), strings.Repeat("5", 17), `"` + strings.Repeat("t", 250) + `"`, `"\\`, "#", "0"}
	state := 1
	for n := 0; n < 4000; n++ {
		var src strings.Builder
		for k := 0; k <= n%90; k++ {
			state = (state*1103515245 + 12345) % (1 << 31)
			of := len(pieces) - 3 // without the pieces that nearly always are faults
			if n%4 == 0 {
				of = len(pieces)
			}
			src.WriteString(pieces[(state>>12)%of])
		}
		compare(t, src.String())
	}
}
