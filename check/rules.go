package check

import "errors"

// The rules, as the document parts them.
var (
	errFile  = errors.New("the file")
	errScope = errors.New("scopes")
	errStmt  = errors.New("statements")
	errJump  = errors.New("where one may go")
	errEnd   = errors.New("ends")
	errExpr  = errors.New("expressions and their types")
)

// breach is what a check panics with: the part of a source that breaks a rule.
type breach struct {
	part string
	rule error
}

func (b breach) Error() string {
	return b.rule.Error() + ": " + b.part
}

func (b breach) Unwrap() error {
	return b.rule
}

// must ends the check where a part doesn't hold what its rule asks.
func must(holds bool, rule error, part string) {
	if !holds {
		panic(breach{part: part, rule: rule})
	}
}

// isRule tells whether an error is that of a source that breaks a rule.
func isRule(err error) bool {
	return errors.Is(err, errFile) || errors.Is(err, errScope) || errors.Is(err, errStmt) ||
		errors.Is(err, errJump) || errors.Is(err, errEnd) || errors.Is(err, errExpr)
}
