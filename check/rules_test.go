package check

import (
	"errors"
	"testing"

	"derrick/parse"
)

// TestRulesAreTold: which rule a source breaks is found in the wrapping of what the check ends with.
func TestRulesAreTold(t *testing.T) {
	rules := []error{errFile, errScope, errStmt, errJump, errEnd, errExpr}
	for _, c := range []struct {
		src  string
		rule error
		text string
	}{
		{"func f() { }", errFile, "the file: main"},
		{"func main() { var x *T }", errFile, "the file: T"},
		{"func main() { x := 1; x := 2 }", errScope, "scopes: x"},
		{"func main() { y = 1 }", errScope, "scopes: y"},
		{"func main() { x := nil }", errStmt, "statements: define"},
		{"func main() { break L }", errJump, "where one may go: L"},
		{"func main() { fallthrough }", errJump, "where one may go: fallthrough"},
		{"func f() int { }\nfunc main() { }", errEnd, "ends: function"},
		{"func main() { print(1 + true) }", errExpr, "expressions and their types: +"},
	} {
		file, _ := parse.Parse(c.src)
		unit, err := unitOf(file)
		if err == nil || err.Error() != c.text || unit.Main != 0 {
			t.Errorf("%q: %v, not %q", c.src, err, c.text)
		}
		for _, rule := range rules {
			if errors.Is(err, rule) != (rule == c.rule) {
				t.Errorf("%q: %v is %v", c.src, err, rule)
			}
		}
		if !isRule(err) {
			t.Errorf("%q: %v is no rule", c.src, err)
		}
	}
	if isRule(nil) || isRule(errors.New("the file")) {
		t.Error("what is no rule is one")
	}
}
