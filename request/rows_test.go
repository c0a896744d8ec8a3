package request

import (
	"math/rand"
	"slices"
	"strconv"
	"strings"
	"testing"

	"mandate/api"
	"mandate/clause"
)

// lang is a set of rows of words: what may begin them, and what may follow. Nil is the set of no row at all.
type lang struct {
	ends   bool               // the empty row is one of them
	behind func(string) *lang // the rows that go on behind a word, without it
}

// nothing is the row of no words.
func nothing() *lang {
	return &lang{ends: true, behind: func(string) *lang { return nil }}
}

// word is one word of those that are taken.
func word(takes func(string) bool) *lang {
	return &lang{behind: func(w string) *lang {
		if !takes(w) {
			return nil
		}
		return nothing()
	}}
}

// sign is that one word.
func sign(s string) *lang {
	return word(func(w string) bool { return w == s })
}

func either(l ...*lang) *lang {
	l = slices.DeleteFunc(l, func(x *lang) bool { return x == nil })
	if len(l) == 0 {
		return nil
	}
	return &lang{
		ends: slices.ContainsFunc(l, func(x *lang) bool { return x.ends }),
		behind: func(w string) *lang {
			var rest []*lang
			for _, x := range l {
				rest = append(rest, x.behind(w))
			}
			return either(rest...)
		},
	}
}

// row is one behind the other.
func row(first *lang, others ...*lang) *lang {
	if first == nil || len(others) == 0 {
		return first
	}
	rest := func() *lang { return row(others[0], others[1:]...) }
	return &lang{
		ends: first.ends && rest().ends,
		behind: func(w string) *lang {
			var on, skipped *lang
			if x := first.behind(w); x != nil {
				on = row(x, others...)
			}
			if first.ends {
				skipped = rest().behind(w)
			}
			return either(on, skipped)
		},
	}
}

// listed is one to most of them, with a comma between.
func listed(most int, x func() *lang) *lang {
	if most == 1 {
		return x()
	}
	return row(x(), either(nothing(), lazy(func() *lang { return row(sign(","), listed(most-1, x)) })))
}

// lazy is not made ahead of a word.
func lazy(made func() *lang) *lang {
	return &lang{behind: func(w string) *lang { return made().behind(w) }}
}

func isNumber(w string) bool {
	_, err := strconv.ParseInt(w, 10, 64)
	return err == nil
}

func isName(w string) bool {
	return w[0] >= 'a' && w[0] <= 'z' && w != "not" && w != "says"
}

func isVar(w string) bool {
	return w[0] >= 'A' && w[0] <= 'Z'
}

// requests is the chapter's grammar, with so many terms and literals at most.
func requests(terms, literals int) *lang {
	name, variable := word(isName), word(isVar)
	term := func() *lang { return either(name, variable, word(isNumber)) }
	bounded := word(func(w string) bool { n, err := strconv.ParseInt(w, 10, 64); return err == nil && n >= 1 && n <= 1<<40 })
	atom := func() *lang { return row(name, either(nothing(), row(sign("("), listed(terms, term), sign(")")))) }
	said := func() *lang { return row(either(nothing(), row(either(name, variable), sign("says"))), atom()) }
	literal := func() *lang {
		return either(row(either(nothing(), sign("not")), said()), row(term(), either(sign("<"), sign("!=")), term()))
	}
	cl := row(atom(), either(nothing(), row(sign(":-"), listed(literals, literal))), sign("."))
	return either(
		row(sign("assert"), name, either(nothing(), row(sign("for"), bounded)), cl),
		row(sign("revoke"), bounded),
		row(either(sign("query"), sign("prove")), said()),
		sign("audit"),
	)
}

// walk is where the chapter's grammar and the same without limits are in a list of words.
type walk struct {
	list  []string
	goes  *lang
	loose *lang
}

func begin() walk {
	return walk{goes: requests(api.MaxArity, api.MaxBody), loose: requests(99, 99)}
}

func (k walk) on(w string) walk {
	return walk{append(slices.Clone(k.list), w), k.goes.behind(w), k.loose.behind(w)}
}

// held holds what is answered of the words against the grammar. (Of the words ahead of the last one it is known that some request goes on with them.)
func (k walk) held(t *testing.T, behind ...string) {
	t.Helper()
	s := strings.Join(append(slices.Clone(k.list), behind...), " ")
	at, want := len(s), api.ErrSyntax
	switch {
	case k.goes == nil:
		last := len(k.list) - 1
		at = len(strings.Join(k.list[:last], " ")) + min(last, 1)
		if k.loose != nil {
			want = api.ErrLong
		}
	case k.goes.ends:
		at, want = 0, api.OK
	}
	q, place, errno := Parse(s)
	if errno != want || place != at {
		t.Fatalf("Parse(%q): %d, %d; not %d, %d", s, place, errno, at, want)
	}
	if want != api.OK && !same(q, api.Request{}) {
		t.Fatalf("Parse(%q): %v", s, q)
	}
	if want == api.OK {
		answered(t, s, k.list, q)
	}
}

// answered holds a request against the words that it was made by.
func answered(t *testing.T, s string, list []string, q api.Request) {
	t.Helper()
	want := map[string]api.Request{"assert": {Kind: api.QAssert}, "revoke": {Kind: api.QRevoke}, "query": {Kind: api.QQuery}, "prove": {Kind: api.QProve}, "audit": {Kind: api.QAudit}}[list[0]]
	switch list[0] {
	case "assert":
		rest := list[2:]
		want.Label = list[1]
		if rest[0] == "for" && isNumber(rest[1]) {
			want.Life, _ = strconv.ParseInt(rest[1], 10, 64)
			rest = rest[2:]
		}
		want.Clause, _, _ = clause.Parse(strings.Join(rest, " "))
	case "revoke":
		want.No, _ = strconv.Atoi(list[1])
	case "query", "prove":
		want.Lit, _, _ = clause.ParseLit(strings.Join(list[1:], " "))
	}
	text, errno := Print(q)
	if !same(q, want) || !Check(q) || errno != api.OK || strings.ReplaceAll(text, " ", "") != strings.ReplaceAll(s, " ", "") {
		t.Fatalf("Parse(%q): %v, not %v; Print: %q, %d", s, q, want, text, errno)
	}
	if again, _, errno := Parse(text); errno != api.OK || !same(again, q) {
		t.Fatalf("Parse(%q): %v, %d", text, again, errno)
	}
}

// vocabulary is the words of which rows are made; any other one of its kind stands in the same places.
var vocabulary = []string{"assert", "revoke", "query", "prove", "audit", "for", "p", "X", "7", "0", "-3", "1099511627776", "1099511627777", "not", "says", "(", ")", ",", ".", "<", "!=", ":-"}

// all walks all rows of so many words more.
func (k walk) all(t *testing.T, more int) {
	t.Helper()
	k.held(t)
	if k.goes == nil {
		// What is wrong stays so, whatever stands behind it.
		k.held(t, ".", "assert")
		return
	}
	if more == 0 {
		return
	}
	for _, w := range vocabulary {
		k.on(w).all(t, more-1)
	}
}

// P22.1, P22.2: all short rows, and all that begin as assertions and queries do.
func TestAllShortRows(t *testing.T) {
	begin().all(t, 5)
	for _, ahead := range []string{"assert low for 7", "assert for for 7 for", "assert low for ( X", "query X says p", "prove for ("} {
		k := begin()
		for _, w := range strings.Fields(ahead) {
			k = k.on(w)
		}
		k.all(t, 4)
	}
}

// P22.1, P22.2: long rows each word of which mostly may stand there.
func TestLongRows(t *testing.T) {
	r := rand.New(rand.NewSource(22))
	long := 0
	for range 20000 {
		k := begin()
		if r.Intn(3) > 0 {
			k = k.on("assert").on("p")
		}
		for range 90 {
			next := k.on(vocabulary[r.Intn(len(vocabulary))])
			for tries := 0; next.goes == nil && r.Intn(60) > 0 && tries < 200; tries++ {
				next = k.on(vocabulary[r.Intn(len(vocabulary))])
			}
			k = next
			if k.goes == nil || r.Intn(60) == 0 {
				break
			}
		}
		if k.goes == nil && k.loose != nil {
			long++
		}
		k.held(t)
	}
	if long == 0 {
		t.Error("no row was too long")
	}
}
