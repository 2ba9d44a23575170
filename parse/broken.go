package parse

import "strconv"

// unexpected is the place of the first token with which no source goes on.
type unexpected struct {
	at int
}

func (e unexpected) Error() string {
	return "nothing goes on at " + strconv.Itoa(e.at)
}

// inRule wraps why the parsing ended with the grammar's rule in which it did.
type inRule struct {
	rule string
	err  error
}

func (e inRule) Error() string {
	return e.rule + ": " + e.err.Error()
}

func (e inRule) Unwrap() error {
	return e.err
}
