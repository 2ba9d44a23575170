package lex

import "strconv"

// stuck is where the scanner can't go on.
type stuck struct {
	at int
}

func (e stuck) Error() string {
	return "nothing goes on at " + strconv.Itoa(e.at)
}

// inPart wraps why the scanner is stuck with the part that it was reading.
type inPart struct {
	part string
	err  error
}

func (e inPart) Error() string {
	return e.part + ": " + e.err.Error()
}

func (e inPart) Unwrap() error {
	return e.err
}

// within keeps nil as it is, for a wrapped nil would be an error.
func within(part string, err error) error {
	if err == nil {
		return nil
	}
	return inPart{part: part, err: err}
}
