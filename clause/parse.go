package clause

import (
	"mandate/api"
	"mandate/lex"
	"mandate/value"
)

// fault is why and where a parser gave up.
type fault struct {
	errno api.Errno
	at    int
}

// parser reads the tokens of a text, one behind the other.
type parser struct {
	text   string
	tokens []api.Token
	next   int
}

// Parse reads a clause.
func Parse(s string) (api.Clause, int, api.Errno) {
	return read(s, (*parser).clause)
}

// ParseLit reads a literal.
func ParseLit(s string) (api.Lit, int, api.Errno) {
	return read(s, func(p *parser) api.Lit { return p.said(api.LPos) })
}

// read reads a text that is one thing and nothing behind it.
func read[T any](s string, thing func(*parser) T) (made T, at int, errno api.Errno) {
	tokens, at, errno := lex.All(s)
	if errno != api.OK {
		return made, at, errno
	}
	defer func() {
		if r := recover(); r != nil {
			// Nothing but a fault is thrown on purpose: all else goes on its way up.
			f := r.(fault)
			at, errno = f.at, f.errno
		}
	}()
	p := &parser{text: s, tokens: tokens}
	whole := thing(p)
	p.end()
	return whole, 0, api.OK
}

// clause = atom [ ":-" literal { "," literal } ] "."
func (p *parser) clause() api.Clause {
	c := api.Clause{Head: api.Lit{Kind: api.LPos}}
	c.Head.Pred, c.Head.Args = p.atom()
	if p.took(":-") {
		p.list(api.MaxBody, func() { c.Body = append(c.Body, p.literal()) })
	}
	p.want(".")
	return c
}

// literal = [ "not" ] said | term "<" term | term "!=" term
func (p *parser) literal() api.Lit {
	if p.took("not") {
		return p.said(api.LNot)
	}
	// No atom begins with a number, so that a number can but be compared; else the second token tells.
	if second := p.spelt(1); p.kind() == api.TNum || second == "<" || second == "!=" {
		return p.comparison()
	}
	return p.said(api.LPos)
}

// comparison = term "<" term | term "!=" term
func (p *parser) comparison() api.Lit {
	l := api.Lit{Kind: api.LLess}
	first := p.term()
	if !p.took("<") {
		p.want("!=")
		l.Kind = api.LUnlike
	}
	l.Args = []api.Term{first, p.term()}
	return l
}

// said = [ ( NAME | VAR ) "says" ] atom
func (p *parser) said(kind uint8) api.Lit {
	l := api.Lit{Kind: kind}
	if p.kind() == api.TVar || p.kind() == api.TName && p.spelt(1) == "says" {
		l.Who = p.term()
		p.want("says")
	}
	l.Pred, l.Args = p.atom()
	return l
}

// atom = NAME [ "(" term { "," term } ")" ]
func (p *parser) atom() (string, []api.Term) {
	if p.kind() != api.TName {
		p.giveUp(api.ErrSyntax)
	}
	name := p.take()
	if !p.took("(") {
		return name, nil
	}
	var args []api.Term
	p.list(api.MaxArity, func() { args = append(args, p.term()) })
	p.want(")")
	return name, args
}

// term = NAME | VAR | NUM
func (p *parser) term() api.Term {
	switch p.kind() {
	case api.TVar:
		return api.Term{Var: p.take()}
	case api.TName, api.TNum:
		v, _ := value.Read(p.take())
		return api.Term{Val: v}
	}
	p.giveUp(api.ErrSyntax)
	return api.Term{}
}

// list reads one or more of what one reads, at most so many, with a comma between.
func (p *parser) list(most int, one func()) {
	one()
	for range most - 1 {
		if !p.took(",") {
			return
		}
		one()
	}
	if p.spelt(0) == "," {
		p.giveUp(api.ErrLong)
	}
}

// kind is that of the next token, 0 behind the last one.
func (p *parser) kind() uint8 {
	if p.next == len(p.tokens) {
		return 0
	}
	return p.tokens[p.next].Kind
}

// spelt is the text of the token so many behind the next one, empty behind the last one.
func (p *parser) spelt(behind int) string {
	if len(p.tokens)-p.next <= behind {
		return ""
	}
	t := p.tokens[p.next+behind]
	return p.text[t.From:t.To]
}

// take passes over the next token and tells its text.
func (p *parser) take() string {
	s := p.spelt(0)
	p.next++
	return s
}

// took passes over the next token, if it is that sign or word.
func (p *parser) took(s string) bool {
	if p.spelt(0) != s {
		return false
	}
	p.next++
	return true
}

func (p *parser) want(s string) {
	if !p.took(s) {
		p.giveUp(api.ErrSyntax)
	}
}

func (p *parser) end() {
	if p.next < len(p.tokens) {
		p.giveUp(api.ErrSyntax)
	}
}

// giveUp ends the reading at the next token, or at the text's end behind the last one.
func (p *parser) giveUp(errno api.Errno) {
	at := len(p.text)
	if p.next < len(p.tokens) {
		at = p.tokens[p.next].From
	}
	panic(fault{errno: errno, at: at})
}
