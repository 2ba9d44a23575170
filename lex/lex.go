// Package lex is layer 1: see shared/doc/01-lex.md.
package lex

import (
	"errors"

	"derrick/api"
)

// Scan makes tokens, the End last; or tells the fault for which there are none.
func Scan(src string) ([]api.Token, api.Fault) {
	if len(src) > api.MaxSource {
		return nil, api.Fault{Stage: api.TooBig, At: api.MaxSource}
	}
	s := scanner{src: src}
	err := s.scan()
	var place stuck
	if errors.As(err, &place) {
		return nil, api.Fault{Stage: api.Lexical, At: place.at}
	}
	// Depth is asked of whole sources only: a Lexical fault goes ahead of it, even from a later place.
	if at, deep := tooDeep(s.tokens); deep {
		return nil, api.Fault{Stage: api.TooDeep, At: at}
	}
	return s.tokens, api.Fault{}
}

// tooDeep finds the first bracket with which too many are open.
func tooDeep(tokens []api.Token) (int, bool) {
	open := 0
	for _, t := range tokens {
		if t.Kind != api.Mark {
			continue
		}
		switch t.Text {
		case "(", "[", "{":
			open++
		case ")", "]", "}":
			open = max(open-1, 0)
		}
		if open > api.MaxNest {
			return t.At, true
		}
	}
	return 0, false
}
