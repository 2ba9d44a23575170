package types

import (
	"strings"

	"derrick/api"
	"derrick/lex"
)

// reader goes through a text part by part. It counts what is open instead of calling itself, since a text nests as deeply as it is long.
type reader struct {
	rest   string
	open   int  // the function types whose params aren't all read
	wanted bool // a type must begin here
}

// done tells whether the text is read, and is a type.
func (r *reader) done() bool {
	return r.rest == "" && r.open == 0 && !r.wanted
}

// step reads one part; it is false where none that may stand there does.
func (r *reader) step() bool {
	if r.wanted {
		return r.begin()
	}
	if r.open == 0 {
		return false
	}
	if r.skip(",") {
		r.wanted = true
		return true
	}
	return r.closing()
}

// begin reads how a type begins: the whole of it, or what stands ahead of another type.
func (r *reader) begin() bool {
	switch {
	case r.skip(slice), r.skip(channel):
		return true
	case r.skip(function):
		r.open++
		r.closing()
		return true
	case r.skip("int"), r.skip("bool"), r.skip("string"), r.skip(pointer) && r.name():
		r.wanted = false
		return true
	}
	return false
}

// closing reads the ")" behind params. What then stands there is the result's type, but for what may follow a whole type.
func (r *reader) closing() bool {
	if !r.skip(")") {
		return false
	}
	r.open--
	r.wanted = r.rest != "" && r.rest[0] != ',' && r.rest[0] != ')'
	return true
}

// name reads a name, as layer 1 knows them.
func (r *reader) name() bool {
	end := strings.IndexAny(r.rest, ",)")
	if end < 0 {
		end = len(r.rest)
	}
	name := r.rest[:end]
	r.rest = r.rest[end:]
	return isName(name)
}

// isName tells whether a text is one token that is a name; of a longer text layer 1 needn't be asked.
func isName(text string) bool {
	if len(text) > api.MaxName {
		return false
	}
	tokens, _ := lex.Scan(text)
	return len(tokens) > 0 && tokens[0].Kind == api.Name && tokens[0].Text == text
}

// skip reads a part if it stands there.
func (r *reader) skip(part string) bool {
	rest, ok := strings.CutPrefix(r.rest, part)
	if ok {
		r.rest = rest
	}
	return ok
}
