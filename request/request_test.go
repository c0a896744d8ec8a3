package request

import (
	"math"
	"reflect"
	"slices"
	"strconv"
	"strings"
	"testing"

	"mandate/api"
	"mandate/clause"
)

func sym(s string) api.Term { return api.Term{Val: api.Value{Sym: s}} }

func num(n int64) api.Term { return api.Term{Val: api.Value{Num: n}} }

func vari(s string) api.Term { return api.Term{Var: s} }

// lit is a literal that says that something is so.
func lit(who api.Term, pred string, args ...api.Term) api.Lit {
	return api.Lit{Kind: api.LPos, Who: who, Pred: pred, Args: args}
}

// fact is a clause without a body.
func fact(pred string, args ...api.Term) api.Clause {
	return api.Clause{Head: lit(api.Term{}, pred, args...)}
}

// asserts is a request to assert.
func asserts(label string, life int64, cl api.Clause) api.Request {
	return api.Request{Kind: api.QAssert, Label: label, Life: life, Clause: cl}
}

func revokes(no int) api.Request { return api.Request{Kind: api.QRevoke, No: no} }

func asks(kind uint8, l api.Lit) api.Request { return api.Request{Kind: kind, Lit: l} }

// same: are two requests one? (A list that is empty may be nil or not.)
func same(a, b api.Request) bool {
	return a.Kind == b.Kind && a.Label == b.Label && a.Life == b.Life && a.No == b.No && sameLit(a.Lit, b.Lit) &&
		sameLit(a.Clause.Head, b.Clause.Head) && slices.EqualFunc(a.Clause.Body, b.Clause.Body, sameLit)
}

func sameLit(a, b api.Lit) bool {
	return a.Kind == b.Kind && a.Who == b.Who && a.Pred == b.Pred && slices.Equal(a.Args, b.Args)
}

const (
	name16 = "abcdefghijklmno_"
	var16  = "Abcdefghijklm_nO"
)

// written are requests and how they are printed.
func written() map[string]api.Request {
	a, x, none := sym("a"), vari("X"), api.Term{}
	rule := func(head api.Clause, body ...api.Lit) api.Clause { return api.Clause{Head: head.Head, Body: body} }
	return map[string]api.Request{
		"assert low p(a).":                       asserts("low", 0, fact("p", a)),
		"assert low p.":                          asserts("low", 0, fact("p")),
		"assert low for 5 p(a).":                 asserts("low", 5, fact("p", a)),
		"assert low for 1 p.":                    asserts("low", 1, fact("p")),
		"assert low for 1099511627776 p.":        asserts("low", api.MaxTick, fact("p")),
		"assert low for.":                        asserts("low", 0, fact("for")),
		"assert low for(5).":                     asserts("low", 0, fact("for", num(5))),
		"assert low for(X) :- p(X).":             asserts("low", 0, rule(fact("for", x), lit(none, "p", x))),
		"assert low for :- for, for says for.":   asserts("low", 0, rule(fact("for"), lit(none, "for"), lit(sym("for"), "for"))),
		"assert low for 7 for.":                  asserts("low", 7, fact("for")),
		"assert low for 7 for(for).":             asserts("low", 7, fact("for", sym("for"))),
		"assert for for 7 for.":                  asserts("for", 7, fact("for")),
		"assert for for.":                        asserts("for", 0, fact("for")),
		"assert for p.":                          asserts("for", 0, fact("p")),
		"assert assert for 2 assert.":            asserts("assert", 2, fact("assert")),
		"assert audit revoke(query, prove, -1).": asserts("audit", 0, fact("revoke", sym("query"), sym("prove"), num(-1))),
		"assert " + name16 + " for 10 ok(X) :- bob says p(X), not bad(X), X != me, X < 3.": asserts(name16, 10, rule(fact("ok", x),
			lit(sym("bob"), "p", x), api.Lit{Kind: api.LNot, Pred: "bad", Args: []api.Term{x}},
			api.Lit{Kind: api.LUnlike, Args: []api.Term{x, sym("me")}}, api.Lit{Kind: api.LLess, Args: []api.Term{x, num(3)}})),
		"revoke 1":                    revokes(1),
		"revoke 32":                   revokes(32),
		"revoke 1099511627776":        revokes(api.MaxTick),
		"query p":                     asks(api.QQuery, lit(none, "p")),
		"query p(X)":                  asks(api.QQuery, lit(none, "p", x)),
		"query bob says p(X, a, -7)":  asks(api.QQuery, lit(sym("bob"), "p", x, a, num(-7))),
		"query " + var16 + " says p":  asks(api.QQuery, lit(vari(var16), "p")),
		"query query says query":      asks(api.QQuery, lit(sym("query"), "query")),
		"query for":                   asks(api.QQuery, lit(none, "for")),
		"prove ok(a)":                 asks(api.QProve, lit(none, "ok", a)),
		"prove X says ok(X, 1, 2, X)": asks(api.QProve, lit(x, "ok", x, num(1), num(2), x)),
		"prove audit":                 asks(api.QProve, lit(none, "audit")),
		"audit":                       {Kind: api.QAudit},
	}
}

// P22.1: each of them is read, whatever blanks it has.
func TestParse(t *testing.T) {
	for text, want := range written() {
		for _, s := range []string{text, "\t " + strings.ReplaceAll(text, " ", " \t") + "  ", squeezed(text)} {
			if q, at, errno := Parse(s); errno != api.OK || at != 0 || !same(q, want) {
				t.Errorf("Parse(%q): %v, %d, %d", s, q, at, errno)
			}
		}
	}
	for _, text := range []string{"audit", "revoke 7", "query p(a)", "assert low for 3 p."} {
		full := text + strings.Repeat(" ", api.MaxText-len(text))
		if q, at, errno := Parse(full); errno != api.OK || at != 0 || !same(q, parsed(t, text)) {
			t.Errorf("Parse of %q with as many blanks as may be: %v, %d, %d", text, q, at, errno)
		}
		if q, at, errno := Parse(full + " "); errno != api.ErrLong || at != 0 || !same(q, api.Request{}) {
			t.Errorf("Parse of %q with one blank more: %v, %d, %d", text, q, at, errno)
		}
	}
}

// squeezed is a text without the blanks that its tokens do without.
func squeezed(s string) string {
	var made string
	for i := range len(s) {
		if s[i] != ' ' || i > 0 && i+1 < len(s) && within(s[i-1]) && (within(s[i+1]) || s[i+1] == '-') {
			made += s[i : i+1]
		}
	}
	return made
}

func within(c byte) bool {
	return c == '_' || '0' <= c && c <= '9' || 'a' <= c|0x20 && c|0x20 <= 'z'
}

func parsed(t *testing.T, text string) api.Request {
	t.Helper()
	q, _, errno := Parse(text)
	if errno != api.OK {
		t.Fatalf("Parse(%q): %d", text, errno)
	}
	return q
}

// P22.1: the first token with which no request goes on, or the text's length.
func TestParseRefuses(t *testing.T) {
	for s, at := range map[string]int{
		"":                                       0,
		"  ":                                     2,
		"asser":                                  0,
		"asserts low p.":                         0,
		"Assert low p.":                          0,
		"low":                                    0,
		"for 5":                                  0,
		"not":                                    0,
		"says audit":                             0,
		"7":                                      0,
		". audit":                                0,
		"( query p":                              0,
		"tick":                                   0,
		"assert":                                 6,
		"assert  ":                               8,
		"assert .":                               7,
		"assert Low p.":                          7,
		"assert 7 p.":                            7,
		"assert not p.":                          7,
		"assert says p.":                         7,
		"assert (low) p.":                        7,
		"assert low":                             10,
		"assert low ":                            11,
		"assert low.":                            10,
		"assert low 5 p.":                        11,
		"assert low X.":                          11,
		"assert low not p.":                      11,
		"assert low p":                           12,
		"assert low p..":                         13,
		"assert low p. q.":                       14,
		"assert low p(a":                         14,
		"assert low p(X) :-":                     18,
		"assert low p q.":                        13,
		"assert low bob says p.":                 15,
		"assert low for":                         14,
		"assert low for ":                        15,
		"assert low for 5":                       16,
		"assert low for 5 ":                      17,
		"assert low for 5.":                      16,
		"assert low for 5 6 p.":                  17,
		"assert low for 5 for 6 p.":              21,
		"assert low for 5 for":                   20,
		"assert low for 5 X.":                    17,
		"assert low for 0 p.":                    15,
		"assert low for -5 p.":                   15,
		"assert low for 1099511627777 p.":        15,
		"assert low for 9223372036854775807 p.":  15,
		"assert low for -9223372036854775808 p.": 15,
		"assert low for 0":                       15,
		"assert low for 0 5 p.":                  15,
		"assert low for X p.":                    15,
		"assert low for five p.":                 15,
		"assert low for for 5 p.":                15,
		"assert low for not p.":                  15,
		"assert low p for 5.":                    13,
		"assert for 5 p.":                        11,
		"assert for":                             10,
		"assert for for":                         14,
		"assert for for 5":                       16,
		"assert for 5 for 5 p.":                  11,
		"revoke":                                 6,
		"revoke ":                                7,
		"revoke 0":                               7,
		"revoke -1":                              7,
		"revoke -9223372036854775808":            7,
		"revoke 1099511627777":                   7,
		"revoke 9223372036854775807":             7,
		"revoke p":                               7,
		"revoke X":                               7,
		"revoke not":                             7,
		"revoke .":                               7,
		"revoke 1 2":                             9,
		"revoke 1.":                              8,
		"revoke 0 2":                             7,
		"query":                                  5,
		"query ":                                 6,
		"query 7":                                6,
		"query X":                                7,
		"query X < 3":                            8,
		"query not p":                            6,
		"query p(X":                              9,
		"query p(X)(":                            10,
		"query p(X).":                            10,
		"query p, q":                             7,
		"query bob says":                         14,
		"query p query p":                        8,
		"query .":                                6,
		"prove":                                  5,
		"prove ":                                 6,
		"prove 7":                                6,
		"prove not p":                            6,
		"prove p(a":                              9,
		"prove p(a).":                            10,
		"prove bob says X":                       15,
		"audit now":                              6,
		"audit 1":                                6,
		"audit.":                                 5,
		"audit audit":                            6,
		"  audit  p":                             9,
	} {
		refused(t, s, at, api.ErrSyntax)
	}
}

func refused(t *testing.T, s string, at int, errno api.Errno) {
	t.Helper()
	q, place, e := Parse(s)
	if e != errno || place != at || !reflect.DeepEqual(q, api.Request{}) {
		t.Errorf("Parse(%q): %v, %d, %d; not %d, %d", s, q, place, e, at, errno)
	}
}

// P22.1: what layer 6 says is too much, and layer 5's errors, which go ahead of all others.
func TestParseOfTooMuch(t *testing.T) {
	refused(t, "assert low p(a, b, c, d, e).", 23, api.ErrLong)
	refused(t, "assert low for 5 p(a, b, c, d, e).", 29, api.ErrLong)
	refused(t, "assert low p :- q, q, q, q, q, q, q.", 32, api.ErrLong)
	refused(t, "assert low for 12 p :- q, q, q, q, q, q,", 39, api.ErrLong)
	refused(t, "query p(a, b, c, d, e)", 18, api.ErrLong)
	refused(t, "prove bob says p(a, b, c, d,", 27, api.ErrLong)
	refused(t, "assert low for 0 p(a, b, c, d, e).", 15, api.ErrSyntax)
	refused(t, "assert 7 p(a, b, c, d, e).", 7, api.ErrSyntax)
	refused(t, "foo 007", 4, api.ErrToken)
	refused(t, "assert low for 007 p.", 15, api.ErrToken)
	refused(t, "assert low for 9223372036854775808 p.", 15, api.ErrToken)
	refused(t, "assert "+name16+"p p.", 7, api.ErrToken)
	refused(t, "revoke 9223372036854775808", 7, api.ErrToken)
	refused(t, "audit\n", 5, api.ErrToken)
	refused(t, "query p(a, b, c, d, e) :", 23, api.ErrToken)
	refused(t, "_", 0, api.ErrToken)
	refused(t, strings.Repeat(".", api.MaxText+1), 0, api.ErrLong)
	refused(t, "assert low p(a)."+strings.Repeat(" ", api.MaxText), 0, api.ErrLong)
	refused(t, strings.Repeat(" ", api.MaxText), api.MaxText, api.ErrSyntax)
	refused(t, "query"+strings.Repeat(" ", api.MaxText-5), api.MaxText, api.ErrSyntax)
	refused(t, strings.Repeat("(", api.MaxText), 0, api.ErrSyntax)
}

// P22.2: how requests are printed.
func TestPrint(t *testing.T) {
	for want, q := range written() {
		if text, errno := Print(q); errno != api.OK || text != want || !Check(q) {
			t.Errorf("Print: %q, %d, not %q; Check: %v", text, errno, want, Check(q))
		}
	}
}

// P22.2: lists of length 0 are as good as none.
func TestEmptyLists(t *testing.T) {
	empty := api.Lit{Args: []api.Term{}}
	nothing := api.Clause{Head: empty, Body: []api.Lit{}}
	p := api.Lit{Kind: api.LPos, Pred: "p", Args: []api.Term{}}
	for want, q := range map[string]api.Request{
		"assert low p.": {Kind: api.QAssert, Label: "low", Clause: api.Clause{Head: p, Body: []api.Lit{}}, Lit: empty},
		"revoke 3":      {Kind: api.QRevoke, No: 3, Clause: nothing, Lit: empty},
		"query p":       {Kind: api.QQuery, Lit: p, Clause: nothing},
		"prove p":       {Kind: api.QProve, Lit: p, Clause: nothing},
		"audit":         {Kind: api.QAudit, Lit: empty, Clause: nothing},
	} {
		if text, errno := Print(q); errno != api.OK || text != want || !Check(q) {
			t.Errorf("Print: %q, %d, not %q", text, errno, want)
		}
	}
}

// changes are those that make of each request one that may not be, but for the kinds that have what is changed.
func changes() map[string]func(*api.Request) {
	return map[string]func(*api.Request){
		"a label":               func(q *api.Request) { q.Label = "low" },
		"a life":                func(q *api.Request) { q.Life = 3 },
		"a life below 0":        func(q *api.Request) { q.Life = -3 },
		"a clause":              func(q *api.Request) { q.Clause = fact("p") },
		"a clause's kind":       func(q *api.Request) { q.Clause.Head.Kind = api.LPos },
		"a clause's speaker":    func(q *api.Request) { q.Clause.Head.Who = vari("X") },
		"a clause's number":     func(q *api.Request) { q.Clause.Head.Who = num(1) },
		"a clause's name":       func(q *api.Request) { q.Clause.Head.Pred = "p" },
		"a clause's argument":   func(q *api.Request) { q.Clause.Head.Args = []api.Term{{}} },
		"a clause's body":       func(q *api.Request) { q.Clause.Body = []api.Lit{lit(api.Term{}, "p")} },
		"a body of nothing":     func(q *api.Request) { q.Clause.Body = []api.Lit{{}} },
		"a number":              func(q *api.Request) { q.No = 3 },
		"a number below 0":      func(q *api.Request) { q.No = -3 },
		"a literal":             func(q *api.Request) { q.Lit = lit(api.Term{}, "p") },
		"a literal's kind":      func(q *api.Request) { q.Lit.Kind = api.LPos },
		"a literal's speaker":   func(q *api.Request) { q.Lit.Who = sym("bob") },
		"a literal's name":      func(q *api.Request) { q.Lit.Pred = "p" },
		"a literal's argument":  func(q *api.Request) { q.Lit.Args = []api.Term{{}} },
		"a literal's arguments": func(q *api.Request) { q.Lit.Args = []api.Term{sym("a"), vari("X")} },
	}
}

// P22.2: what a kind has not is zero.
func TestCheckOfWhatIsNotOfTheKind(t *testing.T) {
	own := map[uint8]string{api.QAssert: "label life clause body", api.QRevoke: "number", api.QQuery: "literal", api.QProve: "literal", api.QAudit: "nothing else"}
	for text, good := range written() {
		for what, change := range changes() {
			if slices.ContainsFunc(strings.Fields(own[good.Kind]), func(word string) bool { return strings.Contains(what, " "+word) }) {
				continue
			}
			q := good
			change(&q)
			mayNot(t, text+" with "+what, q)
		}
	}
	for _, kind := range []uint8{0, api.QAudit + 1, math.MaxUint8} {
		mayNot(t, "another kind", api.Request{Kind: kind})
		for text, q := range written() {
			q.Kind = kind
			mayNot(t, text+" of another kind", q)
		}
	}
	for text, good := range written() {
		for _, kind := range []uint8{api.QAssert, api.QRevoke, api.QQuery, api.QProve, api.QAudit} {
			asking := func(k uint8) bool { return k == api.QQuery || k == api.QProve }
			if q := good; kind != q.Kind && !(asking(kind) && asking(q.Kind)) {
				q.Kind = kind
				mayNot(t, text+" of the kind "+strconv.Itoa(int(kind)), q)
			}
		}
	}
}

func mayNot(t *testing.T, what string, q api.Request) {
	t.Helper()
	if text, errno := Print(q); Check(q) || text != "" || errno != api.ErrArg {
		t.Errorf("%s: Check: %v, Print: %q, %d", what, Check(q), text, errno)
	}
}

// P22.2: what a kind has is as it may be.
func TestCheckOfWhatIsOfTheKind(t *testing.T) {
	for _, label := range []string{"", "Low", "not", "says", "1", "a b", " low", "low\n", name16 + "p", "low.", "-1"} {
		mayNot(t, "the label "+label, asserts(label, 0, fact("p")))
	}
	for _, life := range []int64{-1, math.MinInt64, api.MaxTick + 1, math.MaxInt64} {
		mayNot(t, "a life", asserts("low", life, fact("p")))
	}
	for _, no := range []int{0, -1, math.MinInt, api.MaxTick + 1, math.MaxInt} {
		mayNot(t, "a number", revokes(no))
	}
	long := fact("p")
	for range api.MaxBody + 1 {
		long.Body = append(long.Body, lit(api.Term{}, "q"))
	}
	spoken := api.Clause{Head: lit(sym("bob"), "p")}
	for _, cl := range []api.Clause{{}, long, spoken, fact("P"), fact("p", sym("A")), fact("p", num(1), num(2), num(3), num(4), num(5)), {Head: api.Lit{Kind: api.LNot, Pred: "p"}}} {
		mayNot(t, "a clause", asserts("low", 0, cl))
		mayNot(t, "a clause for 5", asserts("low", 5, cl))
	}
	for _, l := range []api.Lit{{}, {Kind: api.LNot, Pred: "p"}, {Kind: api.LLess, Args: []api.Term{num(1), num(2)}}, lit(num(1), "p"), lit(api.Term{}, "not"), lit(vari("x"), "p"), lit(api.Term{}, "p", num(1), num(2), num(3), num(4), num(5))} {
		mayNot(t, "a query", asks(api.QQuery, l))
		mayNot(t, "a proof", asks(api.QProve, l))
	}
}

// P22.2: the longest request there is has a text that may be, so that it is read again.
func TestLongest(t *testing.T) {
	wide := []api.Term{num(math.MinInt64), num(math.MinInt64), num(math.MinInt64), num(math.MinInt64)}
	cl := fact(name16, wide...)
	for range api.MaxBody {
		cl.Body = append(cl.Body, api.Lit{Kind: api.LNot, Who: sym(name16), Pred: name16, Args: wide})
	}
	q := asserts(name16, api.MaxTick, cl)
	text, errno := Print(q)
	if again, _, e := Parse(text); errno != api.OK || e != api.OK || !same(again, q) || len(text) > api.MaxText {
		t.Errorf("the longest request: %d bytes, %d, %d", len(text), errno, e)
	}
}

// R4: two answers share nothing, and what is printed is not changed.
func TestAnswersShareNothing(t *testing.T) {
	const s = "assert low for 3 p(X) :- q(X, a), X < 3."
	first, second := parsed(t, s), parsed(t, s)
	cl := first.Clause
	cl.Head.Args[0], cl.Body[0].Args[1], cl.Body[1] = num(1), num(2), api.Lit{}
	if text, _ := Print(second); text != s {
		t.Errorf("the second answer: %q", text)
	}
	if _, _, errno := clause.Parse("p(X) :- q(X, a), X < 3."); errno != api.OK || !same(second, parsed(t, s)) {
		t.Error("Print changes what it is handed")
	}
}
