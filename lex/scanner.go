package lex

import "derrick/api"

// scanner goes through a source once, from its first byte to its end.
type scanner struct {
	src    string
	at     int
	tokens []api.Token
}

// scan goes on till the source's end, or till it can't.
func (s *scanner) scan() error {
	for s.at < len(s.src) {
		if err := s.part(); err != nil {
			return err
		}
	}
	s.endLine()
	s.add(api.Token{Kind: api.End, At: s.at}, s.at)
	return nil
}

// part goes past what stands here: a token, or what may stand between tokens.
func (s *scanner) part() error {
	c := s.src[s.at]
	switch {
	case c == ' ' || c == '\t':
		s.at++
	case c == '\n':
		s.endLine()
		s.at++
	case s.comment():
		s.at = s.run(s.at, func(c byte) bool { return c != '\n' })
	case isLetter(c):
		return within("name", s.name())
	case isDigit(c):
		return within("number", s.number())
	case c == '"':
		return within("text", s.text())
	default:
		return within("mark", s.mark())
	}
	return nil
}

// run finds the end of the bytes from at on that belong together.
func (s *scanner) run(at int, belongs func(c byte) bool) int {
	for at < len(s.src) && belongs(s.src[at]) {
		at++
	}
	return at
}

// add keeps a token and goes to where it ends.
func (s *scanner) add(t api.Token, end int) {
	s.tokens = append(s.tokens, t)
	s.at = end
}

// endLine lays down the semicolon that the line's last token asks for. On a line without tokens it
// sees the last one of an earlier line, which asks for none: it is a semicolon, or never asked.
func (s *scanner) endLine() {
	if len(s.tokens) > 0 && endsStatement(s.tokens[len(s.tokens)-1]) {
		s.add(api.Token{Kind: api.Mark, Text: ";", Num: 1, At: s.at}, s.at)
	}
}

// endsStatement tells whether a line that ends behind the token ends a statement too.
func endsStatement(t api.Token) bool {
	switch t.Kind {
	case api.Name, api.Int, api.Str:
		return true
	case api.Word:
		return wordEnds(t.Text)
	case api.Mark:
		return markEnds(t.Text)
	}
	return false
}

func (s *scanner) comment() bool {
	return s.at+1 < len(s.src) && s.src[s.at:s.at+2] == "//"
}

func (s *scanner) name() error {
	end := s.run(s.at, func(c byte) bool { return isLetter(c) || isDigit(c) })
	if end-s.at > api.MaxName {
		return stuck{s.at}
	}
	t := api.Token{Kind: api.Name, Text: s.src[s.at:end], At: s.at}
	if IsWord(t.Text) {
		t.Kind = api.Word
	}
	s.add(t, end)
	return nil
}

func (s *scanner) number() error {
	end := s.run(s.at, isDigit)
	digits := s.src[s.at:end]
	if len(digits) > api.MaxDigits || len(digits) > 1 && digits[0] == '0' {
		return stuck{s.at}
	}
	if end < len(s.src) && isLetter(s.src[end]) {
		return stuck{end}
	}
	value := 0
	for i := range len(digits) {
		value = value*10 + int(digits[i]-'0')
	}
	s.add(api.Token{Kind: api.Int, Text: digits, Num: value, At: s.at}, end)
	return nil
}

func (s *scanner) text() error {
	var meant []byte
	at := s.at + 1
	for {
		end := s.run(at, isPlain)
		meant = append(meant, s.src[at:end]...)
		if end == len(s.src) {
			return stuck{end}
		}
		if s.src[end] == '"' {
			at = end + 1
			break
		}
		c, ok := s.escape(end)
		if !ok {
			return stuck{end}
		}
		meant = append(meant, c)
		at = end + 2
	}
	// The length is asked last: what doesn't end as a text should has no length of its own.
	if len(meant) > api.MaxText {
		return stuck{s.at}
	}
	s.add(api.Token{Kind: api.Str, Text: string(meant), At: s.at}, at)
	return nil
}

// escape reads the byte that a \ and the byte behind it mean.
func (s *scanner) escape(at int) (byte, bool) {
	if s.src[at] != '\\' || at+1 == len(s.src) {
		return 0, false
	}
	switch c := s.src[at+1]; c {
	case 'n':
		return '\n', true
	case '"', '\\':
		return c, true
	}
	return 0, false
}

func (s *scanner) mark() error {
	n := markLength(s.src[s.at:])
	if n == 0 {
		return stuck{s.at}
	}
	s.add(api.Token{Kind: api.Mark, Text: s.src[s.at : s.at+n], At: s.at}, s.at+n)
	return nil
}

func isLetter(c byte) bool {
	return 'a' <= c && c <= 'z' || 'A' <= c && c <= 'Z' || c == '_'
}

func isDigit(c byte) bool {
	return '0' <= c && c <= '9'
}

// isPlain tells whether a byte of a text means itself.
func isPlain(c byte) bool {
	return 32 <= c && c <= 126 && c != '"' && c != '\\'
}
