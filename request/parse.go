package request

import (
	"mandate/api"
	"mandate/clause"
	"mandate/lex"
	"mandate/value"
)

// reader reads the tokens of a text, one behind the other. Of what is wrong it keeps what it finds first, and reads on: nothing behind that counts.
type reader struct {
	text   string
	tokens []api.Token
	next   int
	at     int
	errno  api.Errno
}

// Parse reads a request.
func Parse(s string) (api.Request, int, api.Errno) {
	tokens, at, errno := lex.All(s)
	if errno != api.OK {
		return api.Request{}, at, errno
	}
	r := &reader{text: s, tokens: tokens}
	var q api.Request
	if read, ok := leads(r, &q)[r.spelt()]; ok {
		r.next++
		read()
	} else {
		r.wrong(r.place(), api.ErrSyntax)
	}
	if r.errno != api.OK {
		return api.Request{}, r.at, r.errno
	}
	return q, 0, api.OK
}

// leads tells what each first word leads to: the reading of all that stands behind it.
func leads(r *reader, q *api.Request) map[string]func() {
	return map[string]func(){
		assertWord: func() {
			q.Kind = api.QAssert
			q.Label = r.name()
			q.Life = r.life()
			q.Clause = rest(r, clause.Parse)
		},
		revokeWord: func() {
			q.Kind = api.QRevoke
			q.No = int(r.number())
			r.end()
		},
		queryWord: func() {
			q.Kind = api.QQuery
			q.Lit = rest(r, clause.ParseLit)
		},
		proveWord: func() {
			q.Kind = api.QProve
			q.Lit = rest(r, clause.ParseLit)
		},
		auditWord: func() {
			q.Kind = api.QAudit
			r.end()
		},
	}
}

// name takes a NAME.
func (r *reader) name() string {
	if r.kind(0) != api.TName {
		r.wrong(r.place(), api.ErrSyntax)
		return ""
	}
	s := r.spelt()
	r.next++
	return s
}

// life takes [ for NUM ].
func (r *reader) life() int64 {
	// Without a number behind it, for is the clause's predicate.
	if r.spelt() != forWord || r.kind(1) != api.TNum {
		return 0
	}
	r.next++
	return r.number()
}

// number takes a NUM.
func (r *reader) number() int64 {
	v, ok := value.Read(r.spelt())
	if !ok || !bounded(v.Num) {
		r.wrong(r.place(), api.ErrSyntax)
		return 0
	}
	r.next++
	return v.Num
}

// end looks whether anything stands behind what was read.
func (r *reader) end() {
	if r.next < len(r.tokens) {
		r.wrong(r.place(), api.ErrSyntax)
	}
}

// rest reads all that is left as one thing of layer 6. (The tokens of a text's end are those of the text.)
func rest[T any](r *reader, parse func(string) (T, int, api.Errno)) T {
	from := r.place()
	made, at, errno := parse(r.text[from:])
	if errno != api.OK {
		r.wrong(from+at, errno)
	}
	return made
}

func (r *reader) wrong(at int, errno api.Errno) {
	if r.errno == api.OK {
		r.at, r.errno = at, errno
	}
}

// kind is that of the token so many behind the next one, 0 behind the last one.
func (r *reader) kind(behind int) uint8 {
	if len(r.tokens)-r.next <= behind {
		return 0
	}
	return r.tokens[r.next+behind].Kind
}

// spelt is the text of the next token, empty behind the last one.
func (r *reader) spelt() string {
	if r.next == len(r.tokens) {
		return ""
	}
	t := r.tokens[r.next]
	return r.text[t.From:t.To]
}

// place is where the next token begins; behind the last one it is the text's end.
func (r *reader) place() int {
	if r.next == len(r.tokens) {
		return len(r.text)
	}
	return r.tokens[r.next].From
}
