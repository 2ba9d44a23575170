package parse

import (
	"slices"

	"derrick/api"
)

// parser goes through tokens once, and never back: so the token at which a rule can't go on is the
// first fault, if each rule asks of a token all that the tokens ahead of it leave open.
type parser struct {
	tokens []api.Token
	at     int
	inHead bool // an operand that begins with & or [ may not stand here
}

// within parses a part with the heads' rule in force or lifted, and puts back what was in force ahead of it.
func within[T any](p *parser, head bool, rule func() T) T {
	outer := p.inHead
	p.inHead = head
	part := rule()
	p.inHead = outer
	return part
}

func (p *parser) token() api.Token {
	return p.tokens[p.at]
}

// take goes past a token. None goes past the End, for that one is only asked for its kind.
func (p *parser) take() api.Token {
	t := p.tokens[p.at]
	p.at++
	return t
}

// sign is the text of a token that is a word or a mark; empty of others, for a Str may have any text.
func (p *parser) sign() string {
	if t := p.token(); t.Kind == api.Word || t.Kind == api.Mark {
		return t.Text
	}
	return ""
}

func (p *parser) is(signs ...string) bool {
	sign := p.sign()
	return sign != "" && slices.Contains(signs, sign)
}

// skip goes past the sign, if it stands here.
func (p *parser) skip(sign string) bool {
	if !p.is(sign) {
		return false
	}
	p.at++
	return true
}

// want goes past the sign that the rule asks for.
func (p *parser) want(rule, sign string) api.Token {
	if !p.is(sign) {
		panic(p.broken(rule))
	}
	return p.take()
}

func (p *parser) wantName(rule string) api.Token {
	if p.token().Kind != api.Name {
		panic(p.broken(rule))
	}
	return p.take()
}

// broken is what a rule panics with that can't go on with the token that stands here.
func (p *parser) broken(rule string) error {
	return inRule{rule: rule, err: unexpected{at: p.token().At}}
}

func none() api.Node {
	return api.Node{Kind: api.NNone}
}
