package naive

import (
	"math"
	"reflect"
	"slices"
	"strconv"
	"strings"
	"testing"

	"mandate/api"
	"mandate/clause"
	"mandate/config"
	"mandate/lower"
	"mandate/value"
)

// plainSetup is a configuration of four labels: left and right stand above low, top above all.
const plainSetup = `label low
label left
label right
label top
above left low
above right low
above top left
above top right
user ann low
user bob left
user cat right
user dan top
pred p 1 0
pred q 2 0
pred bad 1 1
pred ok 1 2
pred r 2 2
pred none 0 3
pred last 1 7
purse 9 900
`

const (
	low = iota
	left
	right
	top
)

func configured(t testing.TB, text string) api.Config {
	t.Helper()
	c, at, errno := config.Parse(text)
	if errno != api.OK {
		t.Fatalf("a configuration: %d at %d", errno, at)
	}
	return c
}

// given is the plain configuration with a bound.
func given(t testing.TB, bound int) api.Config {
	t.Helper()
	return configured(t, plainSetup+"bound "+strconv.Itoa(bound))
}

func ruled(t testing.TB, c api.Config, user int, text string) api.Rule {
	t.Helper()
	cl, at, errno := clause.Parse(text)
	if errno != api.OK {
		t.Fatalf("%q: %d at %d", text, errno, at)
	}
	r, errno := lower.Rule(c, user, cl)
	if errno != api.OK {
		t.Fatalf("%q of %d: %d", text, user, errno)
	}
	return r
}

// said is a live list of lines: a user's name, a label's name, a clause.
func said(t testing.TB, c api.Config, lines ...string) []api.Said {
	t.Helper()
	var l []api.Said
	for i, line := range lines {
		words := strings.SplitN(line, " ", 3)
		user, ok := config.User(c, words[0])
		label, too := config.Label(c, words[1])
		if !ok || !too {
			t.Fatalf("%q: no such user, or no such label", line)
		}
		l = append(l, api.Said{User: user, No: i + 1, Label: label, Rule: ruled(t, c, user, words[2])})
	}
	slices.SortStableFunc(l, func(a, b api.Said) int { return a.User - b.User })
	return l
}

// told spells what was found: the stratum, the round, the atom.
func told(t testing.TB, l []api.Found) []string {
	t.Helper()
	var lines []string
	for _, f := range l {
		text, ok := lower.Text(f.Tuple)
		if !ok {
			t.Errorf("an atom that may not be: %v", f.Tuple)
		}
		lines = append(lines, strconv.Itoa(f.Stratum)+" "+strconv.Itoa(f.Round)+" "+text)
	}
	return lines
}

func has(t testing.TB, c api.Config, live []api.Said, label int, want ...string) {
	t.Helper()
	l, over, errno := Model(c, live, label)
	if got := told(t, l); !slices.Equal(got, want) || over || errno != api.OK {
		t.Errorf("at %d: %v, %d:\n%s\nnot\n%s", label, over, errno, strings.Join(got, "\n"), strings.Join(want, "\n"))
	}
}

func isOver(t testing.TB, c api.Config, live []api.Said, label int) {
	t.Helper()
	if l, over, errno := Model(c, live, label); len(l) != 0 || !over || errno != api.OK {
		t.Errorf("at %d: %d atoms, %v, %d", label, len(l), over, errno)
	}
}

func refused(t testing.TB, c api.Config, live []api.Said, label int) {
	t.Helper()
	if l, over, errno := Model(c, live, label); len(l) != 0 || over || errno != api.ErrArg {
		t.Errorf("at %d: %d atoms, %v, %d", label, len(l), over, errno)
	}
}

func TestModel(t *testing.T) { // P11.1: the chapter's examples
	c := configured(t, "label low\nuser ann low\npred p 1 0\npred bad 1 0\npred ok 1 1\nbound 9\npurse 9 900")
	has(t, c, nil, 0)
	has(t, c, []api.Said{}, 0)
	rules := said(t, c, "ann low p(a).", "ann low ok(X) :- p(X), not bad(X).")
	has(t, c, rules, 0, "1 1 ann says ok(a)", "0 1 ann says p(a)")
	has(t, c, said(t, c, "ann low p(a).", "ann low bad(a).", "ann low ok(X) :- p(X), not bad(X)."), 0, "0 1 ann says bad(a)", "0 1 ann says p(a)")
	d := given(t, 9)
	has(t, d, said(t, d, "ann low q(a, b).", "ann low q(X, Z) :- q(X, Y), q(Y, Z).", "ann low q(b, c)."), low,
		"0 1 ann says q(a, b)", "0 2 ann says q(a, c)", "0 1 ann says q(b, c)")
}

func TestModelIsInOrder(t *testing.T) { // P11.1
	c := given(t, 20)
	live := said(t, c, "ann low p(z).", "ann low p(10).", "ann low none.", "ann low p(-3).", "ann low p(9).", "ann low p(b_1).", "ann low q(b, a).", "ann low q(a, z).",
		"dan low p(a).", "bob low p(z).", "ann low p(0).")
	has(t, c, live, low, "3 1 ann says none", "0 1 ann says p(-3)", "0 1 ann says p(0)", "0 1 ann says p(9)", "0 1 ann says p(10)", "0 1 ann says p(b_1)", "0 1 ann says p(z)",
		"0 1 bob says p(z)", "0 1 dan says p(a)", "0 1 ann says q(a, z)", "0 1 ann says q(b, a)")
}

func TestRounds(t *testing.T) { // P11.1: the first round in which it could be found counts
	c := given(t, 30)
	chain := []string{"ann low q(1, 2).", "ann low q(2, 3).", "ann low q(3, 4).", "ann low q(4, 5)."}
	twice := said(t, c, append(chain, "ann low q(X, Z) :- q(X, Y), q(Y, Z).")...)
	has(t, c, twice, low, "0 1 ann says q(1, 2)", "0 2 ann says q(1, 3)", "0 3 ann says q(1, 4)", "0 3 ann says q(1, 5)", "0 1 ann says q(2, 3)",
		"0 2 ann says q(2, 4)", "0 3 ann says q(2, 5)", "0 1 ann says q(3, 4)", "0 2 ann says q(3, 5)", "0 1 ann says q(4, 5)")
	once := said(t, c, append(chain, "ann low r(X, Y) :- q(X, Y).", "ann low r(X, Z) :- r(X, Y), q(Y, Z).")...)
	l, _, _ := Model(c, once, low)
	for text, round := range map[string]int{"ann says r(1, 2)": 1, "ann says r(1, 3)": 2, "ann says r(1, 4)": 3, "ann says r(1, 5)": 4, "ann says r(4, 5)": 1} {
		x, _ := lower.Read(text)
		if f, ok := Find(l, x); !ok || f.Stratum != 2 || f.Round != round {
			t.Errorf("%s: %v, %v", text, f, ok)
		}
	}
	// What a rule of a round finds is not there for the others of that round, whichever stands first.
	has(t, c, said(t, c, "ann low p(c) :- p(b).", "ann low p(b) :- p(a).", "ann low p(a).", "ann low p(d) :- p(c), p(a)."), low,
		"0 1 ann says p(a)", "0 2 ann says p(b)", "0 3 ann says p(c)", "0 4 ann says p(d)")
	has(t, c, said(t, c, "ann low p(a).", "ann low p(b) :- p(a).", "ann low p(c) :- p(b).", "ann low p(b)."), low,
		"0 1 ann says p(a)", "0 1 ann says p(b)", "0 2 ann says p(c)")
}

func TestStrata(t *testing.T) { // P11.1
	c := given(t, 30)
	// Each stratum has rounds of its own, from 1 on, and sees all of those below.
	has(t, c, said(t, c, "ann low last(X) :- p(X), bad(X), ok(X), none.", "ann low none :- ok(X).", "ann low ok(X) :- bad(X).", "ann low ok(b) :- ok(a).", "ann low bad(X) :- p(X).",
		"ann low p(b) :- p(a).", "ann low p(a)."), low,
		"1 1 ann says bad(a)", "1 1 ann says bad(b)", "7 1 ann says last(a)", "7 1 ann says last(b)", "3 1 ann says none", "2 1 ann says ok(a)", "2 1 ann says ok(b)", "0 1 ann says p(a)", "0 2 ann says p(b)")
	// A stratum of which nothing is found is no end: those above it go on.
	has(t, c, said(t, c, "ann low last(a) :- not none, not ok(a)."), low, "7 1 ann says last(a)")
	// What is not so is not so at the end of its stratum, however late it is found.
	has(t, c, said(t, c, "ann low ok(X) :- p(X), not bad(X).", "ann low bad(b) :- bad(a).", "ann low bad(a) :- p(a).", "ann low p(a).", "ann low p(b).", "ann low p(c)."), low,
		"1 1 ann says bad(a)", "1 2 ann says bad(b)", "2 1 ann says ok(c)", "0 1 ann says p(a)", "0 1 ann says p(b)", "0 1 ann says p(c)")
	has(t, c, said(t, c, "ann low bad(X) :- p(X), not q(X, X).", "ann low ok(X) :- p(X), not bad(X).", "ann low last(X) :- p(X), not ok(X).", "ann low p(a).", "ann low p(b).", "ann low q(a, a)."), low,
		"1 1 ann says bad(b)", "7 1 ann says last(b)", "2 1 ann says ok(a)", "0 1 ann says p(a)", "0 1 ann says p(b)", "0 1 ann says q(a, a)")
}

func TestHeard(t *testing.T) { // P11.1: at labels at or above the assertion's own
	c := given(t, 30)
	live := said(t, c, "ann low p(1).", "ann left p(2).", "ann right p(3).", "ann top p(4).", "bob left p(5).", "dan low p(6).",
		"ann low ok(X) :- W says p(X), not bad(X).", "ann right bad(2).", "ann right bad(X) :- p(X), 2 < X.", "bob left q(X, Y) :- ann says p(X), p(Y).")
	has(t, c, live, low, "2 1 ann says ok(1)", "2 1 ann says ok(6)", "0 1 ann says p(1)", "0 1 dan says p(6)")
	has(t, c, live, left, "2 1 ann says ok(1)", "2 1 ann says ok(2)", "2 1 ann says ok(5)", "2 1 ann says ok(6)", "0 1 ann says p(1)", "0 1 ann says p(2)", "0 1 bob says p(5)", "0 1 dan says p(6)",
		"0 2 bob says q(1, 5)", "0 2 bob says q(2, 5)")
	has(t, c, live, right, "1 1 ann says bad(2)", "1 1 ann says bad(3)", "2 1 ann says ok(1)", "2 1 ann says ok(6)", "0 1 ann says p(1)", "0 1 ann says p(3)", "0 1 dan says p(6)")
	has(t, c, live, top, "1 1 ann says bad(2)", "1 1 ann says bad(3)", "1 1 ann says bad(4)", "2 1 ann says ok(1)", "2 1 ann says ok(5)", "2 1 ann says ok(6)",
		"0 1 ann says p(1)", "0 1 ann says p(2)", "0 1 ann says p(3)", "0 1 ann says p(4)", "0 1 bob says p(5)", "0 1 dan says p(6)",
		"0 2 bob says q(1, 5)", "0 2 bob says q(2, 5)", "0 2 bob says q(3, 5)", "0 2 bob says q(4, 5)")
}

func TestWhatIsNotHeardIsAsIfItWereNotSaid(t *testing.T) { // P11.1
	c := given(t, 4)
	heard := []string{"ann low p(a).", "bob left p(b).", "ann low ok(X) :- W says p(X), not bad(X)."}
	live := said(t, c, append(heard, "dan top bad(a).", "cat right bad(b).", "dan top q(1, 2).", "dan top q(3, 4).", "dan top p(a).")...)
	want := []string{"2 1 ann says ok(a)", "2 1 ann says ok(b)", "0 1 ann says p(a)", "0 1 bob says p(b)"}
	has(t, c, live, left, want...)
	has(t, c, said(t, c, heard...), left, want...)
	isOver(t, c, live, top)
}

func TestTheLastLabel(t *testing.T) { // P11.1: of as many labels as may be
	text := "user ann l0\npred p 1 0\nbound 99\npurse 9 900\n"
	var lines []string
	for i := range api.MaxLabels {
		name := "l" + strconv.Itoa(i)
		text = "label " + name + "\n" + text
		lines = append(lines, "ann "+name+" p("+strconv.Itoa(i)+").")
	}
	text += "above l63 l0\nabove l0 l1\n"
	c := configured(t, text)
	live := said(t, c, lines...)
	for i := range api.MaxLabels {
		want := []string{"0 1 ann says p(" + strconv.Itoa(i) + ")"}
		switch i {
		case 0:
			want = append(want, "0 1 ann says p(1)")
		case 63:
			want = []string{"0 1 ann says p(0)", "0 1 ann says p(1)", "0 1 ann says p(63)"}
		}
		has(t, c, live, api.MaxLabels-1-i, want...)
	}
	refused(t, c, live, api.MaxLabels)
}

func TestSpeakers(t *testing.T) { // P11.1, P5
	c := given(t, 30)
	// Without a speaker it is by the word of the user whose rule it is.
	has(t, c, said(t, c, "ann low p(a).", "bob low p(b).", "ann low ok(X) :- p(X).", "bob low ok(X) :- p(X).", "cat low ok(X) :- p(X)."), low,
		"2 1 ann says ok(a)", "2 1 bob says ok(b)", "0 1 ann says p(a)", "0 1 bob says p(b)")
	// A speaker may be a variable, and be an argument, too.
	has(t, c, said(t, c, "ann low p(bob).", "bob low p(a).", "bob low q(bob, ann).", "ann low ok(X) :- p(W), W says p(X).", "cat low r(W, X) :- W says q(W, X).", "dan low ok(W) :- W says p(X), not W says q(W, ann)."), low,
		"2 1 ann says ok(a)", "2 1 dan says ok(ann)", "0 1 ann says p(bob)", "0 1 bob says p(a)", "0 1 bob says q(bob, ann)", "2 1 cat says r(bob, ann)")
	// A number says nothing: what it would say is not so.
	has(t, c, said(t, c, "ann low p(7).", "ann low q(7, 7).", "ann low ok(X) :- p(X), not X says p(7).", "ann low r(X, X) :- p(X), X says p(X)."), low,
		"2 1 ann says ok(7)", "0 1 ann says p(7)", "0 1 ann says q(7, 7)")
}

func TestInstances(t *testing.T) { // P11.1
	c := given(t, 40)
	facts := []string{"ann low p(1).", "ann low p(2).", "ann low p(a).", "ann low q(1, 1).", "ann low q(1, 2).", "ann low q(a, 1)."}
	atoms := []string{"0 1 ann says p(1)", "0 1 ann says p(2)", "0 1 ann says p(a)", "0 1 ann says q(1, 1)", "0 1 ann says q(1, 2)", "0 1 ann says q(a, 1)"}
	for text, want := range map[string][]string{
		"ok(X) :- q(X, X).":                                 {"ok(1)"},
		"ok(X) :- q(X, 1).":                                 {"ok(1)", "ok(a)"},
		"ok(X) :- q(1, X).":                                 {"ok(1)", "ok(2)"},
		"ok(X) :- p(X), q(X, Y).":                           {"ok(1)", "ok(a)"},
		"ok(X) :- q(Y, X), p(X), p(Y).":                     {"ok(1)", "ok(2)"},
		"ok(X) :- p(X), X < a.":                             {"ok(1)", "ok(2)"},
		"ok(X) :- a != X, p(X).":                            {"ok(1)", "ok(2)"},
		"ok(X) :- p(X), X != 2.":                            {"ok(1)", "ok(a)"},
		"ok(X) :- X < Y, p(X), p(Y), Y < Z, p(Z).":          {"ok(1)"},
		"ok(Y) :- X < Y, p(X), p(Y), Y < Z, p(Z).":          {"ok(2)"},
		"ok(X) :- X < X, p(X).":                             nil,
		"ok(X) :- p(X), X != X.":                            nil,
		"ok(b).":                                            {"ok(b)"},
		"ok(b) :- p(1), q(a, 1).":                           {"ok(b)"},
		"ok(b) :- p(1), q(a, 2).":                           nil,
		"ok(b) :- 1 < 2, 2 < a, a != b.":                    {"ok(b)"},
		"ok(b) :- 2 < 1.":                                   nil,
		"ok(b) :- a < 1.":                                   nil,
		"ok(b) :- not p(3), not bob says p(1).":             {"ok(b)"},
		"ok(b) :- not p(3), not p(1).":                      nil,
		"ok(X) :- p(X), not q(X, X).":                       {"ok(2)", "ok(a)"},
		"ok(X) :- not q(X, Y), p(X), p(Y).":                 {"ok(1)", "ok(2)", "ok(a)"},
		"ok(X) :- not q(X, Y), p(X), p(Y), q(X, Z), Y < a.": {"ok(a)"},
		"ok(X) :- p(X), p(A), p(B), p(C), p(D), A < B.":     {"ok(1)", "ok(2)", "ok(a)"},
		"ok(X) :- q(X, Y), q(Y, Z), q(Z, W), W < a.":        {"ok(1)", "ok(a)"},
		"r(X, Y) :- p(X), p(Y), not q(X, Y), X != Y.":       {"r(1, a)", "r(2, 1)", "r(2, a)", "r(a, 2)"},
		"r(X, W) :- W says p(X), X < 2.":                    {"r(1, ann)"},
		"bad(X) :- q(X, 2), q(X, 1), p(X).":                 {"bad(1)"},
		"ok(X) :- bad(X).":                                  nil,
	} {
		live := said(t, c, append([]string{"ann low " + text}, facts...)...)
		l, over, errno := Model(c, live, low)
		got, all := told(t, l), slices.Clone(atoms)
		for _, s := range want {
			stratum := "2 1 ann says "
			if strings.HasPrefix(s, "bad") {
				stratum = "1 1 ann says "
			}
			all = append(all, stratum+s)
		}
		slices.Sort(got)
		slices.Sort(all)
		if over || errno != api.OK || !slices.Equal(got, all) {
			t.Errorf("%s: %v, %d: %q", text, over, errno, got)
		}
	}
}

func TestWaysThatLookAlike(t *testing.T) { // P11.1: what is alike written in a row is not alike
	c := given(t, 40)
	live := said(t, c, "ann low q(1, 12).", "ann low q(11, 2).", "bob low q(11, 2).", "ann low q(a, a1).", "ann low q(aa, 1).", "ann low r(X, Y) :- W says q(X, Y).", "cat low r(X, Y) :- ann says q(X, Z), W says q(V, Y).")
	l, over, errno := Model(c, live, low)
	if len(l) != 5+4+16 || over || errno != api.OK {
		t.Errorf("%v, %d: %q", over, errno, told(t, l))
	}
}

func TestBound(t *testing.T) { // P11.1: over is what has more atoms than the bound
	lines := []string{"ann low p(1).", "ann low p(2).", "bob low p(2).", "ann low p(2).", "ann low p(3) :- p(1).", "ann low ok(X) :- W says p(X), not bad(X).", "ann low last(9) :- ok(3).", "dan top p(7).", "dan top p(8)."}
	for label, many := range map[int]int{low: 8, left: 8, right: 8, top: 12} {
		for bound := 1; bound <= 14; bound++ {
			c := given(t, bound)
			live := said(t, c, lines...)
			if bound < many {
				isOver(t, c, live, label)
			} else if l, over, errno := Model(c, live, label); len(l) != many || over || errno != api.OK {
				t.Errorf("at %d of %d: %d, %v, %d", label, bound, len(l), over, errno)
			}
		}
	}
	c := given(t, 1)
	has(t, c, nil, low)
	has(t, c, said(t, c, "ann low p(1).", "ann low p(1).", "ann low p(2) :- p(3)."), low, "0 1 ann says p(1)")
	isOver(t, c, said(t, c, "ann low p(1).", "ann low last(1) :- not none."), low)
}

// many are facts p(0), p(1) and so on, and some lines ahead of them.
func many(n int, lines ...string) []string {
	for i := range n {
		lines = append(lines, "ann low p("+strconv.Itoa(i)+").")
	}
	return lines
}

func TestTheGreatestBound(t *testing.T) { // P11.1
	c := given(t, api.MaxBound)
	lines := many(63, "ann low r(X, Y) :- p(X), p(Y).")
	for i := range 64 {
		lines = append(lines, "bob low bad("+strconv.Itoa(i)+").")
	}
	l, over, errno := Model(c, said(t, c, lines...), top)
	if len(l) != api.MaxBound || over || errno != api.OK {
		t.Errorf("as many as may be: %d, %v, %d", len(l), over, errno)
	}
	isOver(t, c, said(t, c, append(lines, "bob low bad(64).")...), top)
	isOver(t, c, said(t, c, append(lines, "bob low none.")...), low)
}

func TestManyWays(t *testing.T) { // P11.1, R1: it ends, however many instances a rule has
	c := given(t, api.MaxBound)
	lines := many(500)
	for text, want := range map[string]int{
		"ok(X) :- p(A), p(B), p(C), p(D), p(E), p(X).":              1000,
		"ok(A) :- p(A), p(B), p(C), p(D), p(E), p(X).":              1000,
		"ok(X) :- p(A), A < B, p(B), p(C), C < 3, p(X).":            1000,
		"ok(X) :- X < 9, p(A), p(B), C < 3, p(C), p(X).":            509,
		"ok(1) :- p(A), p(B), p(C), p(D), p(E), p(F).":              501,
		"ok(X) :- p(A), p(B), p(C), p(X), bad(X), p(E).":            500,
		"p(X) :- p(A), W says p(B), p(C), V says p(D), p(E), p(X).": 500,
	} {
		l, over, errno := Model(c, said(t, c, append(lines, "ann low "+text)...), low)
		if len(l) != want || over || errno != api.OK {
			t.Errorf("%s: %d, %v, %d", text, len(l), over, errno)
		}
	}
	isOver(t, c, said(t, c, append(lines, "ann low r(X, Y) :- p(A), p(B), p(X), p(Y).")...), low)
}

func TestLongChains(t *testing.T) { // P11.1: many rounds
	c := given(t, api.MaxBound)
	for _, text := range []string{"q(X, Z) :- q(X, Y), q(Y, Z).", "q(X, Z) :- q(X, Y), W says q(Y, Z), W says q(X, Y)."} {
		lines := []string{"ann low " + text}
		for i := range 80 {
			lines = append(lines, "ann low q("+strconv.Itoa(i)+", "+strconv.Itoa(i+1)+").")
		}
		l, over, errno := Model(c, said(t, c, lines...), low)
		if len(l) != 81*80/2 || over || errno != api.OK {
			t.Fatalf("%s: %d, %v, %d", text, len(l), over, errno)
		}
		for _, f := range l {
			way := f.Tuple.Args[2].Num - f.Tuple.Args[1].Num
			if round := 1 + int(math.Ceil(math.Log2(float64(way)))); f.Round != round || f.Stratum != 0 {
				t.Errorf("%s: %v, not %d", text, f, round)
			}
		}
	}
}

func TestModelRefuses(t *testing.T) { // P11.1
	c := given(t, 9)
	live := said(t, c, "ann low p(1).", "ann low ok(X) :- p(X).", "bob top p(2).")
	for _, label := range []int{-1, 4, 64, math.MinInt, math.MaxInt} {
		refused(t, c, live, label)
		refused(t, c, nil, label)
	}
	for what, change := range map[string]func(c *api.Config, l []api.Said){
		"users that fall":     func(c *api.Config, l []api.Said) { l[0], l[2] = l[2], l[0] },
		"numbers that fall":   func(c *api.Config, l []api.Said) { l[0], l[1] = l[1], l[0] },
		"a number twice":      func(c *api.Config, l []api.Said) { l[1].No = 1 },
		"no number":           func(c *api.Config, l []api.Said) { l[0].No = 0 },
		"no such label":       func(c *api.Config, l []api.Said) { l[2].Label = 4 },
		"a label below 0":     func(c *api.Config, l []api.Said) { l[2].Label = -1 },
		"no such user":        func(c *api.Config, l []api.Said) { l[2].User = 4 },
		"a tick below 0":      func(c *api.Config, l []api.Said) { l[2].Till = -1 },
		"another user's rule": func(c *api.Config, l []api.Said) { l[2].User = 3 },
		"no rule":             func(c *api.Config, l []api.Said) { l[1].Rule = api.Rule{} },
		"no bound":            func(c *api.Config, l []api.Said) { c.Bound = 0 },
		"too great a bound":   func(c *api.Config, l []api.Said) { c.Bound = api.MaxBound + 1 },
		"no order":            func(c *api.Config, l []api.Said) { c.Up[0] = 0 },
		"no predicates":       func(c *api.Config, l []api.Said) { c.Preds = nil },
		"another stratum":     func(c *api.Config, l []api.Said) { c.Preds[0].Stratum = 3 },
		"another arity":       func(c *api.Config, l []api.Said) { c.Preds[0].Arity = 2 },
	} {
		changed, list := given(t, 9), slices.Clone(live)
		change(&changed, list)
		for label := range 4 {
			if l, over, errno := Model(changed, list, label); len(l) != 0 || over || errno != api.ErrArg {
				t.Errorf("%s, at %d: %d atoms, %v, %d", what, label, len(l), over, errno)
			}
		}
	}
	refused(t, api.Config{}, nil, 0)
	refused(t, api.Config{}, live, 0)
	has(t, c, live, low, "2 1 ann says ok(1)", "0 1 ann says p(1)")
}

func TestModelOfAsManyAsMayBeLive(t *testing.T) { // P11.1
	c := given(t, api.MaxBound)
	full := said(t, c, many(api.MaxLive)...)
	if l, over, errno := Model(c, full, low); len(l) != api.MaxLive || over || errno != api.OK {
		t.Errorf("%d, %v, %d", len(l), over, errno)
	}
	refused(t, c, said(t, c, many(api.MaxLive+1)...), low)
}

func TestModelLeavesWhatItIsHanded(t *testing.T) { // P11.1, R4
	lines := []string{"ann low p(1).", "ann low q(1, 2).", "ann low ok(Y) :- q(X, Y), p(X), not bad(Y), X < Y.", "ann low r(X, Y) :- q(X, Y)."}
	c, other := given(t, 9), given(t, 9)
	room := append(said(t, c, lines...), api.Said{No: 77})
	live := room[:len(lines)]
	first, _, _ := Model(c, live, top)
	want := told(t, first)
	if !reflect.DeepEqual(c, other) || !reflect.DeepEqual(live, said(t, c, lines...)) || room[len(lines)].No != 77 {
		t.Errorf("changed: %v, %v", c, room)
	}
	for i := range first {
		_ = append(first[i].Tuple.Args, api.Value{Sym: "x"})
	}
	if again := told(t, first); !slices.Equal(again, want) {
		t.Errorf("atoms share memory: %q", again)
	}
	for i := range first {
		for k := range first[i].Tuple.Args {
			first[i].Tuple.Args[k] = api.Value{Sym: "x"}
		}
	}
	has(t, c, live, top, want...)
	if !reflect.DeepEqual(live, said(t, c, lines...)) {
		t.Errorf("an answer shares memory with what was handed in: %v", live)
	}
}

func TestModelIsTheSameEachTime(t *testing.T) { // P11.1, R5
	c := given(t, api.MaxBound)
	live := said(t, c, many(20, "ann low r(X, Y) :- p(X), p(Y), X < Y.", "ann low ok(X) :- r(X, Y), r(Y, Z).")...)
	first, _, _ := Model(c, live, top)
	for range 20 {
		if l, _, _ := Model(c, live, top); !reflect.DeepEqual(l, first) {
			t.Fatal("another answer")
		}
	}
}

// found is a list of atoms, each with its place in it as its round.
func found(t *testing.T, texts ...string) []api.Found {
	t.Helper()
	var l []api.Found
	for i, s := range texts {
		x, ok := lower.Read(s)
		if !ok {
			t.Fatalf("%q", s)
		}
		l = append(l, api.Found{Tuple: x, Stratum: 7, Round: i})
	}
	return l
}

func TestFind(t *testing.T) { // P11.2
	l := found(t, "ann says p(b)", "ann says none", "bob says p(b)", "ann says p(a)", "ann says p(b)", "ann says p(b, 0)", "ann says p(0)", "ann says q(b)")
	for text, round := range map[string]int{"ann says p(b)": 0, "ann says none": 1, "bob says p(b)": 2, "ann says p(a)": 3, "ann says p(b, 0)": 5, "ann says p(0)": 6, "ann says q(b)": 7} {
		x, _ := lower.Read(text)
		if f, ok := Find(l, x); !ok || f.Round != round || f.Stratum != 7 || value.Order(f.Tuple, x) != 0 {
			t.Errorf("%s: %v, %v", text, f, ok)
		}
		if f, ok := Find(nil, x); ok || !reflect.DeepEqual(f, api.Found{}) {
			t.Errorf("%s of no list: %v, %v", text, f, ok)
		}
	}
	for _, text := range []string{"ann says p", "ann says p(c)", "ann says p(b, a)", "ann says p(b, 0, 0)", "cat says p(b)", "ann says none(0)", "ann says r(b)"} {
		x, _ := lower.Read(text)
		if f, ok := Find(l, x); ok || !reflect.DeepEqual(f, api.Found{}) {
			t.Errorf("%s: %v, %v", text, f, ok)
		}
	}
}

func TestFindOfWhatMayNotBe(t *testing.T) { // P11.2: nothing is asked of the tuples
	a, zero := api.Value{Sym: "a"}, api.Value{}
	odd := api.Tuple{Pred: "X y", Args: []api.Value{zero, {Sym: "not", Num: 3}, a, a, a, a, a}}
	l := append(found(t, "a says p"), api.Found{Round: 1}, api.Found{Tuple: odd, Stratum: -1, Round: 2})
	for round, x := range []api.Tuple{{Pred: "p", Args: []api.Value{a}}, {Args: []api.Value{}}, odd} {
		if f, ok := Find(l, x); !ok || f.Round != round || value.Order(f.Tuple, x) != 0 {
			t.Errorf("%v: %v, %v", x, f, ok)
		}
	}
	for _, x := range []api.Tuple{{Pred: "p"}, {Pred: "p", Args: []api.Value{{Sym: "a", Num: 1}}}, {Args: []api.Value{zero}}, {Pred: "X y", Args: odd.Args[:6]}} {
		if f, ok := Find(l, x); ok || !reflect.DeepEqual(f, api.Found{}) {
			t.Errorf("%v: %v, %v", x, f, ok)
		}
	}
}

func TestTuples(t *testing.T) { // P11.2
	if l := Tuples(nil); len(l) != 0 {
		t.Errorf("of nothing: %v", l)
	}
	if l := Tuples([]api.Found{}); len(l) != 0 {
		t.Errorf("of nothing: %v", l)
	}
	l := append(found(t, "bob says p(b)", "ann says none", "bob says p(b)", "ann says p(a, 1)"), api.Found{})
	got := Tuples(l)
	if len(got) != len(l) {
		t.Fatalf("%v", got)
	}
	for i, x := range got {
		if value.Order(x, l[i].Tuple) != 0 {
			t.Errorf("%d: %v, not %v", i, x, l[i].Tuple)
		}
	}
}

func TestFoundIsNotShared(t *testing.T) { // P11.2, R4
	l := found(t, "bob says p(b)", "ann says none", "bob says p(b)")
	l[0].Tuple.Args = append(l[0].Tuple.Args, api.Value{Sym: "room"})[:2]
	f, _ := Find(l, l[0].Tuple)
	tuples := Tuples(l)
	for _, args := range [][]api.Value{f.Tuple.Args, tuples[0].Args, tuples[1].Args, tuples[2].Args} {
		args[0] = api.Value{Sym: "x"}
		_ = append(args, api.Value{Sym: "y"})
	}
	if behind := l[0].Tuple.Args[:3][2]; behind.Sym != "room" || !reflect.DeepEqual(l[2], api.Found{Tuple: l[2].Tuple, Stratum: 7, Round: 2}) {
		t.Errorf("changed: %v", l)
	}
	for i, s := range []string{"bob says p(b)", "ann says none", "bob says p(b)"} {
		if text, _ := lower.Text(l[i].Tuple); text != s {
			t.Errorf("%s is %s now", s, text)
		}
	}
}
