package clause

import (
	"math"
	"slices"
	"strings"
	"testing"

	"mandate/api"
)

func sym(s string) api.Term { return api.Term{Val: api.Value{Sym: s}} }

func num(n int64) api.Term { return api.Term{Val: api.Value{Num: n}} }

func vari(s string) api.Term { return api.Term{Var: s} }

// pos is a literal without a speaker.
func pos(pred string, args ...api.Term) api.Lit {
	return api.Lit{Kind: api.LPos, Pred: pred, Args: args}
}

// by is a literal of another kind or with a speaker.
func by(kind uint8, who api.Term, pred string, args ...api.Term) api.Lit {
	return api.Lit{Kind: kind, Who: who, Pred: pred, Args: args}
}

func less(a, b api.Term) api.Lit { return by(api.LLess, api.Term{}, "", a, b) }

func unlike(a, b api.Term) api.Lit { return by(api.LUnlike, api.Term{}, "", a, b) }

func made(head api.Lit, body ...api.Lit) api.Clause { return api.Clause{Head: head, Body: body} }

// full is a list of as many of one thing as told.
func full[T any](n int, x T) []T {
	return slices.Repeat([]T{x}, n)
}

func sameLit(a, b api.Lit) bool {
	return a.Kind == b.Kind && a.Who == b.Who && a.Pred == b.Pred && slices.Equal(a.Args, b.Args)
}

func same(a, b api.Clause) bool {
	return sameLit(a.Head, b.Head) && slices.EqualFunc(a.Body, b.Body, sameLit)
}

const (
	name16 = "abcdefghijklmno_"
	var16  = "Abcdefghijklm_nO"
)

// written are clauses and how they are printed.
func written() map[string]api.Clause {
	x, y, z := vari("X"), vari("Y"), vari("Z")
	a, b := sym("a"), sym("b")
	return map[string]api.Clause{
		"p.":                  made(pos("p")),
		"p(a).":               made(pos("p", a)),
		"p(X).":               made(pos("p", x)),
		"p(0).":               made(pos("p", num(0))),
		"p(-7, b, X, 10).":    made(pos("p", num(-7), b, x, num(10))),
		"p :- q.":             made(pos("p"), pos("q")),
		"p(X) :- q(X).":       made(pos("p", x), pos("q", x)),
		"p :- not q.":         made(pos("p"), by(api.LNot, api.Term{}, "q")),
		"p :- bob says q.":    made(pos("p"), by(api.LPos, sym("bob"), "q")),
		"p :- Y says q.":      made(pos("p"), by(api.LPos, y, "q")),
		"p :- X < 3.":         made(pos("p"), less(x, num(3))),
		"p :- a != -3.":       made(pos("p"), unlike(a, num(-3))),
		"p :- 0 < 0, 0 != p.": made(pos("p"), less(num(0), num(0)), unlike(num(0), sym("p"))),
		"p :- not bob says q(a), not Y says q(b).": made(pos("p"),
			by(api.LNot, sym("bob"), "q", a), by(api.LNot, y, "q", b)),
		"ok(X) :- bob says friend(X), not bad(X), X != me.": made(pos("ok", x),
			by(api.LPos, sym("bob"), "friend", x), by(api.LNot, api.Term{}, "bad", x), unlike(x, sym("me"))),
		"p(Z, Y, X, Z) :- Y < Z, X says r(Y, Y, 1, a), q, not s, 1 != 2, p says p(p).": made(pos("p", z, y, x, z),
			less(y, z), by(api.LPos, x, "r", y, y, num(1), a), pos("q"), by(api.LNot, api.Term{}, "s"), unlike(num(1), num(2)), by(api.LPos, sym("p"), "p", sym("p"))),
		"p(9223372036854775807, -9223372036854775808).": made(pos("p", num(math.MaxInt64), num(math.MinInt64))),
		"p :- q, q, q, q, q, q.":                        made(pos("p"), full(6, pos("q"))...),
		name16 + "(" + var16 + ") :- not " + var16 + " says " + name16 + "(" + name16 + ").": made(pos(name16, vari(var16)),
			by(api.LNot, vari(var16), name16, sym(name16))),
	}
}

func TestCheckOfClausesThatMayBe(t *testing.T) { // P6.2
	for s, c := range written() {
		if !Check(c) {
			t.Errorf("Check(%s): false", s)
		}
	}
	empty := api.Clause{Head: api.Lit{Kind: api.LPos, Pred: "p", Args: []api.Term{}}, Body: []api.Lit{}}
	if !Check(empty) {
		t.Error("Check of lists of length 0: false")
	}
}

// noTerms are terms that may stand nowhere.
func noTerms() []api.Term {
	return []api.Term{
		vari("x"), vari("_"), vari("_X"), vari("1"), vari(" "), vari(" X"), vari("X "), vari("X Y"), vari("X,"), vari("-1"), vari("X-1"), vari("XÉ"), vari("not"), vari("X\n"), vari("X\x00"),
		vari(var16 + "a"), vari(strings.Repeat("X", 1<<16)),
		sym("A"), sym("not"), sym("says"), sym("1"), sym("_"), sym(" a"), sym("a b"), sym(name16 + "a"),
		{Val: api.Value{Sym: "a", Num: 1}}, {Var: "X", Val: api.Value{Num: 1}}, {Var: "X", Val: api.Value{Sym: "a"}}, {Var: "x", Val: api.Value{Sym: "a"}},
	}
}

// noSaids are literals that no speaker and atom make, whatever their Kind.
func noSaids(kind uint8) []api.Lit {
	none := api.Term{}
	l := []api.Lit{
		by(kind, none, ""), by(kind, none, "not"), by(kind, none, "says"), by(kind, none, "P"), by(kind, none, "1"), by(kind, none, "p q"), by(kind, none, name16+"a"),
		by(kind, none, "", num(1), num(2)),
		by(kind, none, "p", full(5, num(1))...), by(kind, none, "p", full(1<<16, num(1))...),
		by(kind, num(1), "p"), by(kind, num(-1), "p"), by(kind, num(math.MinInt64), "p"), by(kind, vari("X"), ""), by(kind, sym("bob"), ""),
	}
	for _, x := range noTerms() {
		l = append(l, by(kind, x, "p"), by(kind, none, "p", x), by(kind, none, "p", num(1), num(1), num(1), x), by(kind, vari("X"), "p", x, num(1)))
	}
	return l
}

// noCompared are literals that no two terms make.
func noCompared(kind uint8) []api.Lit {
	none, a := api.Term{}, sym("a")
	l := []api.Lit{
		by(kind, none, ""), by(kind, none, "", a), by(kind, none, "", a, a, a),
		by(kind, none, "p"), by(kind, none, "p", a, a), by(kind, none, "<", a, a),
		by(kind, a, "", a, a), by(kind, vari("X"), "", a, a), by(kind, num(1), "", a, a),
	}
	for _, x := range noTerms() {
		l = append(l, by(kind, none, "", x, a), by(kind, none, "", a, x))
	}
	return l
}

// noLits are literals that may stand nowhere.
func noLits() []api.Lit {
	l := slices.Concat(noSaids(api.LPos), noSaids(api.LNot), noCompared(api.LLess), noCompared(api.LUnlike))
	for _, kind := range []uint8{0, 5, 128, 255} {
		l = append(l, by(kind, api.Term{}, "p"), by(kind, api.Term{}, "", num(1), num(2)), by(kind, api.Term{}, ""))
	}
	return append(l, api.Lit{})
}

// noHeads are literals that may stand in bodies alone.
func noHeads() []api.Lit {
	return []api.Lit{
		by(api.LPos, sym("bob"), "p"), by(api.LPos, vari("X"), "p"),
		by(api.LNot, api.Term{}, "p"), by(api.LNot, sym("bob"), "p"), less(num(1), num(2)), unlike(sym("a"), sym("b")),
	}
}

// noClauses are clauses that may not be.
func noClauses() []api.Clause {
	l := []api.Clause{{}, made(pos("p"), full(7, pos("q"))...), made(pos("p"), full(1<<16, less(num(1), num(2)))...)}
	for _, x := range slices.Concat(noLits(), noHeads()) {
		l = append(l, made(x), made(x, pos("q")))
	}
	for _, x := range noLits() {
		l = append(l, made(pos("p"), x), made(pos("p"), pos("q"), pos("q"), pos("q"), pos("q"), pos("q"), x), made(pos("p"), x, pos("q")))
	}
	return l
}

func TestClausesThatMayNotBe(t *testing.T) { // P6.2, P6.3, P6.4
	for _, c := range noClauses() {
		if Check(c) {
			t.Errorf("Check(%.200v): true", c)
		}
		if s, errno := Print(c); s != "" || errno != api.ErrArg {
			t.Errorf("Print(%.200v): %q, %d", c, s, errno)
		}
		if l := Vars(c); len(l) != 0 {
			t.Errorf("Vars(%.200v): %v", c, l)
		}
		if Fact(c) {
			t.Errorf("Fact(%.200v): true", c)
		}
	}
}

func TestLitsInBodies(t *testing.T) { // P6.2
	for _, l := range noHeads() {
		if !Check(made(pos("p"), l)) {
			t.Errorf("Check of a body of %v: false", l)
		}
	}
}

// asked are literals that may be asked for, and how they are printed.
func asked() map[string]api.Lit {
	return map[string]api.Lit{
		"p":              pos("p"),
		"p(a)":           pos("p", sym("a")),
		"p(X, 0, -1, b)": pos("p", vari("X"), num(0), num(-1), sym("b")),
		"bob says p":     by(api.LPos, sym("bob"), "p"),
		"X says p(X)":    by(api.LPos, vari("X"), "p", vari("X")),
		"p says p(p)":    by(api.LPos, sym("p"), "p", sym("p")),
		var16 + " says " + name16 + "(" + var16 + ", " + name16 + ")": by(api.LPos, vari(var16), name16, vari(var16), sym(name16)),
	}
}

func TestCheckLit(t *testing.T) { // P6.2, P6.3
	for s, l := range asked() {
		if !CheckLit(l) {
			t.Errorf("CheckLit(%s): false", s)
		}
		if got, errno := PrintLit(l); got != s || errno != api.OK {
			t.Errorf("PrintLit(%s): %q, %d", s, got, errno)
		}
	}
	wrong := append(noLits(), by(api.LNot, api.Term{}, "p"), by(api.LNot, sym("bob"), "p"), less(num(1), num(2)), unlike(num(1), num(2)))
	for _, l := range wrong {
		if CheckLit(l) {
			t.Errorf("CheckLit(%.200v): true", l)
		}
		if s, errno := PrintLit(l); s != "" || errno != api.ErrArg {
			t.Errorf("PrintLit(%.200v): %q, %d", l, s, errno)
		}
	}
}

func TestPrint(t *testing.T) { // P6.3
	for want, c := range written() {
		if s, errno := Print(c); s != want || errno != api.OK {
			t.Errorf("%q, %d, not %q", s, errno, want)
		}
	}
}

// longest is a clause with as many bytes as there may be.
func longest() api.Clause {
	least := num(math.MinInt64)
	return made(pos(name16, full(4, least)...), full(6, by(api.LNot, sym(name16), name16, full(4, least)...))...)
}

func TestPrintOfTheLongest(t *testing.T) { // P6.2, P6.3
	s, errno := Print(longest())
	if errno != api.OK || len(s) > api.MaxText {
		t.Fatalf("%d bytes, %d", len(s), errno)
	}
	if c, at, errno := Parse(s); errno != api.OK || at != 0 || !same(c, longest()) {
		t.Errorf("Parse: %v, %d, %d", c, at, errno)
	}
}

func TestVars(t *testing.T) { // P6.4
	for s, want := range map[string]string{
		"p.":                             "",
		"p(a, 1) :- bob says q(b).":      "",
		"p(X).":                          "X",
		"p(Y, X, Y).":                    "Y X",
		"p(Y) :- X says q(Y, Z), W < X.": "Y X Z W",
		"p :- Z != Y, not X says q(Z), A says q(B, A), not r(C).": "Z Y X A B C",
		"p :- q(Xa), q(X), q(XA), q(X_), q(X).":                   "Xa X XA X_",
	} {
		c, _, errno := Parse(s)
		if got := strings.Join(Vars(c), " "); got != want || errno != api.OK {
			t.Errorf("Vars(%s): %s, %d", s, got, errno)
		}
	}
	// As many as a clause may have: four of the head, and of each literal a speaker and four more.
	var c api.Clause
	var want []string
	next := func() api.Term {
		want = append(want, "V"+string(rune('a'+len(want)/6))+string(rune('a'+len(want)%6)))
		return vari(want[len(want)-1])
	}
	c.Head = pos("p", next(), next(), next(), next())
	for range 6 {
		c.Body = append(c.Body, by(api.LPos, next(), "q", next(), next(), next(), next()))
	}
	if got := Vars(c); !slices.Equal(got, want) || len(got) != 34 {
		t.Errorf("Vars of many: %v", got)
	}
}

func TestFact(t *testing.T) { // P6.4
	for s, want := range map[string]bool{
		"p.": true, "p(a).": true, "p(a, 1, -1, b).": true,
		"p(X).": false, "p(a, b, c, X).": false, "p :- q.": false, "p(a) :- q(a).": false, "p :- 1 < 2.": false, "p(X) :- q(X).": false, "p :- X says q.": false,
	} {
		c, _, errno := Parse(s)
		if got := Fact(c); got != want || errno != api.OK {
			t.Errorf("Fact(%s): %v, %d", s, got, errno)
		}
	}
}

func TestNothingIsChanged(t *testing.T) { // P6.2, P6.3, P6.4, R4
	fresh := func() (api.Clause, []api.Term, []api.Lit) {
		args := []api.Term{vari("Y"), vari("X"), sym("spare"), sym("spare")}
		body := []api.Lit{by(api.LPos, vari("Z"), "q", args[:2]...), less(vari("X"), num(1)), pos("spare"), pos("spare")}
		return api.Clause{Head: pos("p", args[:1]...), Body: body[:2]}, args, body
	}
	c, args, body := fresh()
	Check(c)
	CheckLit(c.Body[0])
	Print(c)
	PrintLit(c.Body[0])
	Fact(c)
	vars := Vars(c)
	vars[0] = "changed"
	if again := Vars(c); !slices.Equal(again, []string{"Y", "Z", "X"}) {
		t.Errorf("Vars again: %v", again)
	}
	_, wantArgs, wantBody := fresh()
	if !slices.Equal(args, wantArgs) || !slices.EqualFunc(body, wantBody, sameLit) {
		t.Errorf("%v, %v", args, body)
	}
}
