package delta

import (
	"math"
	"math/rand"
	"reflect"
	"slices"
	"strconv"
	"strings"
	"testing"

	"mandate/api"
	"mandate/clause"
	"mandate/config"
	"mandate/lower"
	"mandate/value"
)

// plainSetup is a configuration of four labels: left and right stand above low, top above all.
const plainSetup = `label low
label left
label right
label top
above left low
above right low
above top left
above top right
user ann low
user bob left
user cat right
user dan top
pred p 1 0
pred q 2 0
pred bad 1 1
pred ok 1 2
pred r 2 2
pred four 4 2
pred none 0 3
pred last 1 7
purse 9 900
`

const (
	low = iota
	left
	right
	top
)

func configured(t testing.TB, text string) api.Config {
	t.Helper()
	c, at, errno := config.Parse(text)
	if errno != api.OK {
		t.Fatalf("a configuration: %d at %d", errno, at)
	}
	return c
}

// given is the plain configuration with a bound.
func given(t testing.TB, bound int) api.Config {
	t.Helper()
	return configured(t, plainSetup+"bound "+strconv.Itoa(bound))
}

func ruled(t testing.TB, c api.Config, user int, text string) api.Rule {
	t.Helper()
	cl, at, errno := clause.Parse(text)
	if errno != api.OK {
		t.Fatalf("%q: %d at %d", text, errno, at)
	}
	r, errno := lower.Rule(c, user, cl)
	if errno != api.OK {
		t.Fatalf("%q of %d: %d", text, user, errno)
	}
	return r
}

// said is a live list of lines: a user's name, a label's name, a clause.
func said(t testing.TB, c api.Config, lines ...string) []api.Said {
	t.Helper()
	var l []api.Said
	for i, line := range lines {
		words := strings.SplitN(line, " ", 3)
		user, ok := config.User(c, words[0])
		label, too := config.Label(c, words[1])
		if !ok || !too {
			t.Fatalf("%q: no such user, or no such label", line)
		}
		l = append(l, api.Said{User: user, No: i + 1, Label: label, Rule: ruled(t, c, user, words[2])})
	}
	slices.SortStableFunc(l, func(a, b api.Said) int { return a.User - b.User })
	return l
}

// told spells what was found: the stratum, the round, the atom.
func told(t testing.TB, l []api.Found) []string {
	t.Helper()
	var lines []string
	for _, f := range l {
		text, ok := lower.Text(f.Tuple)
		if !ok {
			t.Errorf("an atom that may not be: %v", f.Tuple)
		}
		lines = append(lines, strconv.Itoa(f.Stratum)+" "+strconv.Itoa(f.Round)+" "+text)
	}
	return lines
}

func run(t testing.TB, c api.Config, live []api.Said) *Base {
	t.Helper()
	b, errno := Run(c, live)
	if b == nil || errno != api.OK {
		t.Fatalf("Run: %v, %d", b, errno)
	}
	return b
}

func read(t testing.TB, text string) api.Tuple {
	t.Helper()
	x, ok := lower.Read(text)
	if !ok {
		t.Fatalf("%q is no atom", text)
	}
	return x
}

func models(t testing.TB, b *Base, label int, want ...string) {
	t.Helper()
	l, over, errno := b.Model(label)
	if got := told(t, l); !slices.Equal(got, want) || over || errno != api.OK {
		t.Errorf("at %d: %v, %d:\n%s\nnot\n%s", label, over, errno, strings.Join(got, "\n"), strings.Join(want, "\n"))
	}
}

func isOver(t testing.TB, b *Base, label int) {
	t.Helper()
	if l, over, errno := b.Model(label); len(l) != 0 || !over || errno != api.OK {
		t.Errorf("the model at %d: %d atoms, %v, %d", label, len(l), over, errno)
	}
	if l, over, errno := b.Select(label, pattern("+ p W X")); len(l) != 0 || !over || errno != api.OK {
		t.Errorf("of the model at %d: %d atoms, %v, %d", label, len(l), over, errno)
	}
}

func masks(t testing.TB, b *Base, want map[string]uint64) {
	t.Helper()
	for text, mask := range want {
		if got := b.Mask(read(t, text)); got != mask {
			t.Errorf("Mask(%s): %x, not %x", text, got, mask)
		}
	}
}

// counts looks how many tuples there are, and at which labels the model is over.
func counts(t testing.TB, b *Base, many int, over uint64) {
	t.Helper()
	if b.Len() != many || b.Over() != over {
		t.Errorf("%d tuples, over %x, not %d, %x", b.Len(), b.Over(), many, over)
	}
}

// pattern is a flat literal of words: + (it is so), - (it is not so), < or !=; the predicate; the terms.
func pattern(words string) api.Flat {
	l := strings.Fields(words)
	f := api.Flat{Kind: map[string]uint8{"+": api.LPos, "-": api.LNot, "<": api.LLess, "!=": api.LUnlike}[l[0]], Pred: l[1]}
	for _, s := range l[2:] {
		if v, ok := value.Read(s); ok {
			f.Args = append(f.Args, api.Term{Val: v})
		} else {
			f.Args = append(f.Args, api.Term{Var: s})
		}
	}
	return f
}

// texts spells atoms.
func texts(t testing.TB, l []api.Tuple) string {
	t.Helper()
	var words []string
	for _, x := range l {
		text, ok := lower.Text(x)
		if !ok {
			t.Errorf("an atom that may not be: %v", x)
		}
		words = append(words, text)
	}
	return strings.Join(words, "; ")
}

func selects(t testing.TB, b *Base, label int, f, want string) {
	t.Helper()
	l, over, errno := b.Select(label, pattern(f))
	if got := texts(t, l); got != want || over || errno != api.OK {
		t.Errorf("Select(%d, %s): %s, %v, %d, not %s", label, f, got, over, errno, want)
	}
}

func TestExample(t *testing.T) { // P14.1, P14.2: the chapter's example
	c := configured(t, "label low\nlabel high\nabove high low\nuser ann low\npred p 1 0\npred bad 1 0\npred ok 1 1\nbound 9\npurse 9 900")
	b := run(t, c, said(t, c, "ann low p(a).", "ann high p(b).", "ann low ok(X) :- p(X), not bad(X).", "ann high bad(a)."))
	models(t, b, 0, "1 1 ann says ok(a)", "0 1 ann says p(a)")
	models(t, b, 1, "0 1 ann says bad(a)", "1 1 ann says ok(b)", "0 1 ann says p(a)", "0 1 ann says p(b)")
	masks(t, b, map[string]uint64{"ann says ok(a)": 1, "ann says ok(b)": 2, "ann says p(a)": 3, "ann says p(b)": 2, "ann says bad(a)": 2, "ann says bad(b)": 0})
	counts(t, b, 5, 0)
}

func TestNothing(t *testing.T) { // P14.1, P14.2
	c := given(t, 1)
	for _, live := range [][]api.Said{nil, {}, said(t, c, "ann low p(X) :- p(X)."), said(t, c, "ann low ok(X) :- W says p(X), not bad(X).", "ann low p(1) :- 2 < 1.")} {
		b := run(t, c, live)
		for label := range 4 {
			models(t, b, label)
			selects(t, b, label, "+ p W X", "")
		}
		masks(t, b, map[string]uint64{"ann says p(1)": 0, "ann says none": 0})
		counts(t, b, 0, 0)
	}
}

func TestRoundsAreEachLabelsOwn(t *testing.T) { // P14.1
	c := given(t, 40)
	// What is found late at low is found at once, or in some other round, where more is heard.
	b := run(t, c, said(t, c, "ann low p(1).", "ann low p(2) :- p(1).", "ann low p(3) :- p(2).", "ann low p(4) :- p(3).", "ann low p(5) :- p(4).",
		"ann left p(3).", "ann right p(4) :- p(1).", "ann low p(6) :- p(3), p(4)."))
	models(t, b, low, "0 1 ann says p(1)", "0 2 ann says p(2)", "0 3 ann says p(3)", "0 4 ann says p(4)", "0 5 ann says p(5)", "0 5 ann says p(6)")
	models(t, b, left, "0 1 ann says p(1)", "0 2 ann says p(2)", "0 1 ann says p(3)", "0 2 ann says p(4)", "0 3 ann says p(5)", "0 3 ann says p(6)")
	models(t, b, right, "0 1 ann says p(1)", "0 2 ann says p(2)", "0 3 ann says p(3)", "0 2 ann says p(4)", "0 3 ann says p(5)", "0 4 ann says p(6)")
	models(t, b, top, "0 1 ann says p(1)", "0 2 ann says p(2)", "0 1 ann says p(3)", "0 2 ann says p(4)", "0 3 ann says p(5)", "0 3 ann says p(6)")
	counts(t, b, 6, 0)
	masks(t, b, map[string]uint64{"ann says p(6)": 15, "ann says p(7)": 0})
	// What is so at two labels, neither above the other one, is not for that so at both together.
	b = run(t, c, said(t, c, "ann left p(1).", "ann right p(2).", "ann low q(X, Y) :- p(X), p(Y), X != Y."))
	models(t, b, low)
	models(t, b, left, "0 1 ann says p(1)")
	models(t, b, right, "0 1 ann says p(2)")
	models(t, b, top, "0 1 ann says p(1)", "0 1 ann says p(2)", "0 2 ann says q(1, 2)", "0 2 ann says q(2, 1)")
	masks(t, b, map[string]uint64{"ann says p(1)": 1<<left | 1<<top, "ann says p(2)": 1<<right | 1<<top, "ann says q(1, 2)": 1 << top})
}

func TestStrataOfAllLabels(t *testing.T) { // P14.1
	c := given(t, 40)
	// What is not so is asked label by label, and so is what follows from it.
	b := run(t, c, said(t, c, "ann low p(1).", "ann low p(2).", "bob left bad(1).", "cat right bad(2).",
		"ann low ok(X) :- p(X), not bob says bad(X), not cat says bad(X).", "ann low none :- ok(X), ok(Y), X < Y.", "ann low last(X) :- p(X), not ok(X), not none."))
	models(t, b, low, "3 1 ann says none", "2 1 ann says ok(1)", "2 1 ann says ok(2)", "0 1 ann says p(1)", "0 1 ann says p(2)")
	models(t, b, left, "1 1 bob says bad(1)", "7 1 ann says last(1)", "2 1 ann says ok(2)", "0 1 ann says p(1)", "0 1 ann says p(2)")
	models(t, b, right, "1 1 cat says bad(2)", "7 1 ann says last(2)", "2 1 ann says ok(1)", "0 1 ann says p(1)", "0 1 ann says p(2)")
	models(t, b, top, "1 1 bob says bad(1)", "1 1 cat says bad(2)", "7 1 ann says last(1)", "7 1 ann says last(2)", "0 1 ann says p(1)", "0 1 ann says p(2)")
	masks(t, b, map[string]uint64{"ann says ok(1)": 1<<low | 1<<right, "ann says ok(2)": 1<<low | 1<<left, "ann says none": 1 << low, "ann says last(1)": 1<<left | 1<<top, "bob says bad(1)": 1<<left | 1<<top})
	counts(t, b, 9, 0)
	// What is not so is that of the end of its stratum, at each label, however late something is found there.
	b = run(t, c, said(t, c, "ann low ok(X) :- p(X), not bad(X).", "ann low bad(b) :- bad(a).", "ann left bad(a) :- p(a).", "ann low p(a).", "ann low p(b).", "ann low p(c).", "ann right bad(b)."))
	models(t, b, low, "2 1 ann says ok(a)", "2 1 ann says ok(b)", "2 1 ann says ok(c)", "0 1 ann says p(a)", "0 1 ann says p(b)", "0 1 ann says p(c)")
	models(t, b, left, "1 1 ann says bad(a)", "1 2 ann says bad(b)", "2 1 ann says ok(c)", "0 1 ann says p(a)", "0 1 ann says p(b)", "0 1 ann says p(c)")
	models(t, b, right, "1 1 ann says bad(b)", "2 1 ann says ok(a)", "2 1 ann says ok(c)", "0 1 ann says p(a)", "0 1 ann says p(b)", "0 1 ann says p(c)")
	models(t, b, top, "1 1 ann says bad(a)", "1 1 ann says bad(b)", "2 1 ann says ok(c)", "0 1 ann says p(a)", "0 1 ann says p(b)", "0 1 ann says p(c)")
}

func TestRulesThatAreHeard(t *testing.T) { // P14.1: at labels at or above the assertion's own
	c := given(t, 40)
	b := run(t, c, said(t, c, "ann low p(1).", "ann left ok(X) :- p(X).", "ann top r(X, X) :- ok(X).", "dan low p(2).", "bob right p(3).", "dan right bad(X) :- W says p(X)."))
	models(t, b, low, "0 1 ann says p(1)", "0 1 dan says p(2)")
	models(t, b, left, "2 1 ann says ok(1)", "0 1 ann says p(1)", "0 1 dan says p(2)")
	models(t, b, right, "1 1 dan says bad(1)", "1 1 dan says bad(2)", "1 1 dan says bad(3)", "0 1 ann says p(1)", "0 1 bob says p(3)", "0 1 dan says p(2)")
	models(t, b, top, "1 1 dan says bad(1)", "1 1 dan says bad(2)", "1 1 dan says bad(3)", "2 1 ann says ok(1)", "0 1 ann says p(1)", "0 1 bob says p(3)", "0 1 dan says p(2)", "2 2 ann says r(1, 1)")
	masks(t, b, map[string]uint64{"ann says p(1)": 15, "bob says p(1)": 0, "ann says r(1, 1)": 1 << top, "dan says bad(3)": 1<<right | 1<<top})
}

func TestOver(t *testing.T) { // P14.2
	lines := []string{"ann low p(1).", "ann low p(2).", "bob low p(2).", "ann left p(3).", "ann right p(4) :- p(1).", "ann right ok(X) :- p(X), not bad(X).", "dan top last(9) :- ann says ok(3)."}
	many := map[int]int{low: 3, left: 4, right: 7, top: 10}
	held := map[string]uint64{"ann says p(1)": 15, "bob says p(2)": 15, "ann says p(3)": 1<<left | 1<<top, "ann says p(4)": 1<<right | 1<<top, "ann says ok(1)": 1<<right | 1<<top, "ann says ok(3)": 1 << top, "dan says last(9)": 1 << top}
	for bound := 1; bound <= 11; bound++ {
		c := given(t, bound)
		b := run(t, c, said(t, c, lines...))
		var over uint64
		for label, n := range many {
			if n > bound {
				over |= 1 << label
				isOver(t, b, label)
			} else if l, over, errno := b.Model(label); len(l) != n || over || errno != api.OK || b.Count(label) != n {
				t.Errorf("at %d of %d: %d, %v, %d", label, bound, len(l), over, errno)
			}
		}
		left := map[string]uint64{}
		for text, mask := range held {
			left[text] = mask &^ over
		}
		masks(t, b, left)
		counts(t, b, map[int]int{3: 3, 4: 4, 5: 4, 6: 4, 7: 8, 8: 8, 9: 8, 10: 10, 11: 10}[bound], over)
	}
}

func TestOverLabelsAreNotAskedOfTheOthers(t *testing.T) { // P14.2
	// Left is over in its first round, top in a later one, right in a higher stratum: low stays as it is.
	c := given(t, 5)
	b := run(t, c, said(t, c, "ann low p(1).", "ann low p(2) :- p(1).", "ann low ok(X) :- p(X), not bad(X).", "ann left p(3).", "ann left p(4).", "ann left p(5).", "ann left p(6).", "ann left p(7).",
		"ann right q(X, Y) :- p(X), p(Y).", "ann left bad(1) :- p(3)."))
	models(t, b, low, "2 1 ann says ok(1)", "2 1 ann says ok(2)", "0 1 ann says p(1)", "0 2 ann says p(2)")
	for _, label := range []int{left, right, top} {
		isOver(t, b, label)
	}
	counts(t, b, 4, 1<<left|1<<right|1<<top)
	masks(t, b, map[string]uint64{"ann says p(1)": 1, "ann says p(3)": 0, "ann says q(1, 1)": 0, "ann says bad(1)": 0})
	selects(t, b, low, "+ p W X", "ann says p(1); ann says p(2)")
	selects(t, b, low, "+ q W X Y", "")
	// All may be over.
	c = given(t, 1)
	b = run(t, c, said(t, c, "ann low p(1).", "ann low p(2)."))
	for label := range 4 {
		isOver(t, b, label)
	}
	counts(t, b, 0, 15)
	// The table that a base is tells of the labels that are left, too.
	for x, mask := range b.All() {
		t.Errorf("%v at %x", x, mask)
	}
	if rows := b.Where("p", -1, api.Value{}); len(rows) != 0 || b.Count(low) != 0 {
		t.Errorf("%v, %d", rows, b.Count(low))
	}
}

func TestSelect(t *testing.T) { // P14.2
	c := given(t, 40)
	b := run(t, c, said(t, c, "ann low q(b, a).", "ann low q(a, b).", "ann low q(a, a).", "ann low q(2, 10).", "ann left q(-1, 3).", "bob left q(a, b).", "bob low p(1).", "ann low none.", "dan top q(a, a)."))
	selects(t, b, low, "+ q W X Y", "ann says q(2, 10); ann says q(a, a); ann says q(a, b); ann says q(b, a)")
	selects(t, b, left, "+ q W X Y", "ann says q(-1, 3); ann says q(2, 10); ann says q(a, a); ann says q(a, b); ann says q(b, a); bob says q(a, b)")
	selects(t, b, right, "+ q W a Y", "ann says q(a, a); ann says q(a, b)")
	selects(t, b, top, "+ q W a Y", "ann says q(a, a); ann says q(a, b); bob says q(a, b); dan says q(a, a)")
	selects(t, b, top, "- q W X X", "ann says q(a, a); dan says q(a, a)")
	selects(t, b, top, "+ q dan X Y", "dan says q(a, a)")
	selects(t, b, low, "+ q dan X Y", "")
	selects(t, b, low, "+ q ann b a", "ann says q(b, a)")
	selects(t, b, low, "+ q ann b b", "")
	selects(t, b, low, "+ none W", "ann says none")
	selects(t, b, low, "+ none ann", "ann says none")
	selects(t, b, low, "+ p W 1", "bob says p(1)")
	selects(t, b, low, "+ p W W", "")
	// Another arity, predicate or kind.
	for _, f := range []string{"+ q W X", "+ q W X Y Z", "+ q", "+ x W", "+ p W X Y", "+ p 1 X", "< q W X Y", "!= q W X Y", "? q W X Y"} {
		selects(t, b, top, f, "")
	}
	for _, f := range []api.Flat{{}, {Kind: api.LPos}, {Kind: 9, Pred: "none", Args: []api.Term{{Var: "W"}}}, {Kind: api.LPos, Pred: "none", Args: []api.Term{{}}}} {
		if l, over, errno := b.Select(low, f); len(l) != 0 || over || errno != api.OK {
			t.Errorf("Select of %v: %v, %v, %d", f, l, over, errno)
		}
	}
}

func TestLabelsThatAreNone(t *testing.T) { // P14.1, P14.2
	c := given(t, 2)
	for _, b := range []*Base{run(t, c, nil), run(t, c, said(t, c, "ann low p(1).", "ann left p(2).", "ann left p(3)."))} {
		for _, label := range []int{-1, 4, 63, 64, math.MinInt, math.MaxInt} {
			if l, over, errno := b.Model(label); len(l) != 0 || over || errno != api.ErrArg {
				t.Errorf("Model(%d): %v, %v, %d", label, l, over, errno)
			}
			if l, over, errno := b.Select(label, pattern("+ p W X")); len(l) != 0 || over || errno != api.ErrArg {
				t.Errorf("Select(%d): %v, %v, %d", label, l, over, errno)
			}
		}
	}
}

func TestMaskOfWhatMayNotBe(t *testing.T) { // P14.2
	c := given(t, 9)
	b := run(t, c, said(t, c, "ann low p(1).", "ann low none."))
	masks(t, b, map[string]uint64{"ann says p(1)": 15, "ann says none": 15, "ann says p": 0, "ann says none(0)": 0, "ann says p(1, 0)": 0, "ann says x(1)": 0, "bob says p(1)": 0, "ann says p(one)": 0})
	ann, one := api.Value{Sym: "ann"}, api.Value{Num: 1}
	for _, x := range []api.Tuple{{}, {Pred: "p"}, {Pred: "p", Args: []api.Value{one}}, {Pred: "p", Args: []api.Value{one, one}}, {Pred: "p", Args: []api.Value{ann, {Sym: "a", Num: 1}}},
		{Pred: "p", Args: []api.Value{ann, one, {}, {}, {}}}, {Pred: "p", Args: []api.Value{ann, one, {}, {}, {}, {}, {}}}, {Args: []api.Value{ann, one}}} {
		if mask := b.Mask(x); mask != 0 {
			t.Errorf("Mask(%v): %x", x, mask)
		}
	}
}

func TestRunRefuses(t *testing.T) { // P14.1
	c := given(t, 9)
	live := said(t, c, "ann low p(1).", "ann low ok(X) :- p(X).", "bob top p(2).")
	for what, change := range map[string]func(c *api.Config, l []api.Said){
		"users that fall":     func(c *api.Config, l []api.Said) { l[0], l[2] = l[2], l[0] },
		"numbers that fall":   func(c *api.Config, l []api.Said) { l[0], l[1] = l[1], l[0] },
		"a number twice":      func(c *api.Config, l []api.Said) { l[1].No = 1 },
		"no number":           func(c *api.Config, l []api.Said) { l[0].No = 0 },
		"no such label":       func(c *api.Config, l []api.Said) { l[2].Label = 4 },
		"a label below 0":     func(c *api.Config, l []api.Said) { l[2].Label = -1 },
		"no such user":        func(c *api.Config, l []api.Said) { l[2].User = 4 },
		"a tick below 0":      func(c *api.Config, l []api.Said) { l[2].Till = -1 },
		"another user's rule": func(c *api.Config, l []api.Said) { l[2].User = 3 },
		"no rule":             func(c *api.Config, l []api.Said) { l[1].Rule = api.Rule{} },
		"no bound":            func(c *api.Config, l []api.Said) { c.Bound = 0 },
		"too great a bound":   func(c *api.Config, l []api.Said) { c.Bound = api.MaxBound + 1 },
		"no order":            func(c *api.Config, l []api.Said) { c.Up[0] = 0 },
		"no predicates":       func(c *api.Config, l []api.Said) { c.Preds = nil },
		"another stratum":     func(c *api.Config, l []api.Said) { c.Preds[0].Stratum = 3 },
		"another arity":       func(c *api.Config, l []api.Said) { c.Preds[0].Arity = 2 },
	} {
		changed, list := given(t, 9), slices.Clone(live)
		change(&changed, list)
		if b, errno := Run(changed, list); b != nil || errno != api.ErrArg {
			t.Errorf("%s: %v, %d", what, b, errno)
		}
	}
	for _, l := range [][]api.Said{nil, live} {
		if b, errno := Run(api.Config{}, l); b != nil || errno != api.ErrArg {
			t.Errorf("of no configuration: %v, %d", b, errno)
		}
	}
	models(t, run(t, c, live), low, "2 1 ann says ok(1)", "0 1 ann says p(1)")
}

func TestNoBase(t *testing.T) { // P14.3
	var b *Base
	if n, over, mask := b.Len(), b.Over(), b.Mask(read(t, "ann says p(1)")); n != 0 || over != 0 || mask != 0 || b.Mask(api.Tuple{}) != 0 {
		t.Errorf("%d, %x, %x", n, over, mask)
	}
	for _, label := range []int{0, 1, -1, 63, 64, math.MinInt, math.MaxInt} {
		if l, over, errno := b.Model(label); len(l) != 0 || over || errno != api.ErrArg {
			t.Errorf("Model(%d): %v, %v, %d", label, l, over, errno)
		}
		if l, over, errno := b.Select(label, pattern("+ p W X")); len(l) != 0 || over || errno != api.ErrArg {
			t.Errorf("Select(%d): %v, %v, %d", label, l, over, errno)
		}
	}
}

func TestWhatIsHandedInStays(t *testing.T) { // P14.1, R4
	lines := []string{"ann low p(1).", "ann low q(1, 2).", "ann low ok(Y) :- q(X, Y), p(X), not bad(Y), X < Y.", "ann low r(X, Y) :- q(X, Y).", "ann left q(X, Z) :- q(X, Y), Y != Z, q(Z, Z)."}
	c, other := given(t, 9), given(t, 9)
	room := append(said(t, c, lines...), api.Said{No: 77})
	live := room[:len(lines)]
	b := run(t, c, live)
	if !reflect.DeepEqual(c, other) || !reflect.DeepEqual(live, said(t, c, lines...)) || room[len(lines)].No != 77 {
		t.Errorf("changed: %v, %v", c, room)
	}
	want := []string{"2 1 ann says ok(2)", "0 1 ann says p(1)", "0 1 ann says q(1, 2)", "2 1 ann says r(1, 2)"}
	// Nor is it kept: what is done to it later is not seen.
	for i := range live {
		for k := range live[i].Rule.Head.Args {
			live[i].Rule.Head.Args[k] = api.Term{}
		}
		live[i] = api.Said{}
	}
	c.Labels, c.Bound, c.Up[0], c.Preds[0].Stratum = c.Labels[:1], 1, 0, 5
	for label := range 4 {
		models(t, b, label, want...)
		selects(t, b, label, "+ q ann X Y", "ann says q(1, 2)")
	}
	counts(t, b, 4, 0)
}

func TestAnswersAreNotShared(t *testing.T) { // P14.1, P14.2, R4
	c := given(t, 9)
	b := run(t, c, said(t, c, "ann low p(1).", "ann low q(1, 2).", "ann low r(X, Y) :- q(X, Y)."))
	spoil := func(args []api.Value) {
		_ = append(args, api.Value{Sym: "x"})
		for k := range args {
			args[k] = api.Value{Sym: "x"}
		}
	}
	first, _, _ := b.Model(low)
	second, _, _ := b.Model(low)
	third, _, _ := b.Select(low, pattern("+ q W X Y"))
	fourth, _, _ := b.Select(low, pattern("+ q W X Y"))
	for i := range first {
		_ = append(first[i].Tuple.Args, api.Value{Sym: "x"})
	}
	want := []string{"0 1 ann says p(1)", "0 1 ann says q(1, 2)", "2 1 ann says r(1, 2)"}
	if got := told(t, first); !slices.Equal(got, want) {
		t.Errorf("atoms share memory: %q", got)
	}
	for i := range first {
		spoil(first[i].Tuple.Args)
	}
	spoil(third[0].Args)
	if got := told(t, second); !slices.Equal(got, want) {
		t.Errorf("answers share memory: %q", got)
	}
	if got := texts(t, fourth); got != "ann says q(1, 2)" {
		t.Errorf("answers share memory: %s", got)
	}
	models(t, b, low, want...)
	selects(t, b, low, "+ q W X Y", "ann says q(1, 2)")
	masks(t, b, map[string]uint64{"ann says q(1, 2)": 15})
	// An atom that is handed in is not kept, and not changed.
	x := read(t, "ann says p(1)")
	b.Mask(x)
	spoil(x.Args)
	masks(t, b, map[string]uint64{"ann says p(1)": 15})
}

func TestBasesAreApart(t *testing.T) { // P14.1
	c := given(t, 9)
	a, b := run(t, c, said(t, c, "ann low p(1).")), run(t, c, said(t, c, "ann left p(2)."))
	models(t, a, low, "0 1 ann says p(1)")
	models(t, b, low)
	models(t, a, left, "0 1 ann says p(1)")
	models(t, b, left, "0 1 ann says p(2)")
}

func TestTheSameEachTime(t *testing.T) { // P14.1, R5
	c := given(t, 420)
	live := said(t, c, many(20, "ann low r(X, Y) :- p(X), p(Y), X < Y.", "ann left ok(X) :- r(X, Y), r(Y, Z).", "ann right q(X, Y) :- p(X), p(Y).", "bob left r(X, Y) :- ann says r(X, Y).")...)
	first := run(t, c, live)
	if first.Over() != 1<<right|1<<top {
		t.Errorf("over: %x", first.Over())
	}
	for range 20 {
		b := run(t, c, live)
		for label := range 4 {
			l, over, _ := b.Model(label)
			want, is, _ := first.Model(label)
			if !reflect.DeepEqual(l, want) || over != is || b.Over() != first.Over() || b.Len() != first.Len() {
				t.Fatalf("another answer at %d", label)
			}
		}
	}
}

// many are facts p(0), p(1) and so on, and some lines ahead of them.
func many(n int, lines ...string) []string {
	for i := range n {
		lines = append(lines, "ann low p("+strconv.Itoa(i)+").")
	}
	return lines
}

func TestManyWays(t *testing.T) { // P14.1, R1: it ends, however many instances a rule has
	c := given(t, api.MaxBound)
	lines := many(500)
	for text, want := range map[string]int{
		"ok(X) :- p(A), p(B), p(C), p(D), p(E), p(X).":              1000,
		"ok(A) :- p(A), p(B), p(C), p(D), p(E), p(X).":              1000,
		"ok(X) :- p(A), A < B, p(B), p(C), C < 3, p(X).":            1000,
		"ok(X) :- X < 9, p(A), p(B), C < 3, p(C), p(X).":            509,
		"ok(1) :- p(A), p(B), p(C), p(D), p(E), p(F).":              501,
		"ok(1) :- p(A), p(B), p(C), A < B, B < C, not q(A, C).":     501,
		"ok(X) :- p(A), p(B), p(C), p(X), bad(X), p(E).":            500,
		"p(X) :- p(A), W says p(B), p(C), V says p(D), p(E), p(X).": 500,
	} {
		b := run(t, c, said(t, c, append(lines, "ann low "+text)...))
		counts(t, b, want, 0)
	}
	// What is over at some labels alone ends as soon, and the others go on.
	b := run(t, c, said(t, c, append(lines, "ann left r(X, Y) :- p(A), p(B), p(X), p(Y).", "ann right q(X, Y) :- p(X), p(Y), p(A), W says p(B), p(C).", "ann left four(A, B, C, D) :- p(A), p(B), p(C), p(D).", "ann low none :- p(A), p(B), A < B.")...))
	counts(t, b, 501, 1<<left|1<<right|1<<top)
	l, over, errno := b.Model(low)
	if len(l) != 501 || over || errno != api.OK {
		t.Errorf("%d, %v, %d", len(l), over, errno)
	}
}

func TestLongChains(t *testing.T) { // P14.1: many rounds
	c := given(t, api.MaxBound)
	for _, text := range []string{"q(X, Z) :- q(X, Y), q(Y, Z).", "q(X, Z) :- q(X, Y), W says q(Y, Z), W says q(X, Y)."} {
		// At low the ways from 0 to 40; at left and above those to 80.
		lines := []string{"ann low " + text}
		for i := range 80 {
			label := []string{"low", "left"}[i/40]
			lines = append(lines, "ann "+label+" q("+strconv.Itoa(i)+", "+strconv.Itoa(i+1)+").")
		}
		b := run(t, c, said(t, c, lines...))
		for label, n := range map[int]int{low: 40, left: 80, right: 40, top: 80} {
			l, over, errno := b.Model(label)
			if len(l) != (n+1)*n/2 || over || errno != api.OK {
				t.Fatalf("%s: at %d: %d, %v, %d", text, label, len(l), over, errno)
			}
			for _, f := range l {
				way := f.Tuple.Args[2].Num - f.Tuple.Args[1].Num
				if round := 1 + int(math.Ceil(math.Log2(float64(way)))); f.Round != round || f.Stratum != 0 {
					t.Errorf("%s: at %d: %v, not %d", text, label, f, round)
				}
			}
		}
	}
	lines := []string{"ann left p(0).", "ann low p(Y) :- p(X), q(X, Y), p(Z)."}
	for i := range 500 {
		lines = append(lines, "ann low q("+strconv.Itoa(i)+", "+strconv.Itoa(i+1)+").")
	}
	b := run(t, c, said(t, c, lines...))
	l, over, errno := b.Model(left)
	if len(l) != 1001 || over || errno != api.OK || b.Mask(read(t, "ann says p(500)")) != 1<<left|1<<top {
		t.Fatalf("%d, %v, %d", len(l), over, errno)
	}
	for _, f := range l {
		if f.Tuple.Pred == "p" && f.Round != int(f.Tuple.Args[1].Num)+1 {
			t.Errorf("%v", f)
		}
	}
}

// wide is a configuration of as many labels as may be, each next to another one by above (of its number, that of the lower one).
func wide(t testing.TB, bound int, lower func(label int) []int) api.Config {
	t.Helper()
	text := strings.NewReplacer("user bob left", "user bob low", "user cat right\n", "", "user dan top\n", "").Replace(plainSetup[strings.Index(plainSetup, "user"):])
	labels, above := "label low\n", ""
	for i := 1; i < api.MaxLabels; i++ {
		labels += "label l" + strconv.Itoa(i) + "\n"
		for _, below := range lower(i) {
			above += "above l" + strconv.Itoa(i) + " " + []string{"low", "l" + strconv.Itoa(below)}[min(below, 1)] + "\n"
		}
	}
	return configured(t, labels+above+text+"bound "+strconv.Itoa(bound))
}

func TestAsManyLabelsAsMayBe(t *testing.T) { // P14.1, P14.2
	chance := rand.New(rand.NewSource(64))
	for what, lower := range map[string]func(int) []int{
		"a chain":   func(label int) []int { return []int{label - 1} },
		"a crown":   func(label int) []int { return []int{0} },
		"none":      func(label int) []int { return nil },
		"by chance": func(label int) []int { return []int{chance.Intn(label), chance.Intn(label)} },
	} {
		over := 0
		for _, bound := range []int{5, 12, 25, api.MaxBound} {
			for range 2 {
				c := wide(t, bound, lower)
				over += agrees(t, c, drawnLive(chance, c, 60+chance.Intn(100)))
			}
		}
		if over == 0 || over == 8*64 {
			t.Errorf("%s: too plain: %d are over", what, over)
		}
	}
}

func TestAllLabelsAtTheirBound(t *testing.T) { // P14.1, P14.2
	c := wide(t, api.MaxBound, func(label int) []int { return []int{0} })
	lines := many(63, "ann low r(X, Y) :- p(X), p(Y).")
	for i := range 64 {
		lines = append(lines, "bob low bad("+strconv.Itoa(i)+").")
	}
	b := run(t, c, said(t, c, lines...))
	counts(t, b, api.MaxBound, 0)
	masks(t, b, map[string]uint64{"ann says r(0, 62)": math.MaxUint64, "bob says bad(63)": math.MaxUint64})
	for _, label := range []int{0, 1, 63} {
		if l, over, errno := b.Model(label); len(l) != api.MaxBound || over || errno != api.OK {
			t.Errorf("at %d: %d, %v, %d", label, len(l), over, errno)
		}
	}
	// One more at the last label, and it alone is over.
	b = run(t, c, said(t, c, append(lines, "bob l63 bad(64).")...))
	counts(t, b, api.MaxBound, 1<<63)
	isOver(t, b, 63)
	masks(t, b, map[string]uint64{"ann says r(0, 62)": math.MaxUint64 >> 1, "bob says bad(64)": 0})
	b = run(t, c, said(t, c, append(lines, "bob low none.")...))
	counts(t, b, 0, math.MaxUint64)
}

func TestAsManyAsMayBeLive(t *testing.T) { // P14.1
	c := given(t, api.MaxBound)
	counts(t, run(t, c, said(t, c, many(api.MaxLive)...)), api.MaxLive, 0)
	if b, errno := Run(c, said(t, c, many(api.MaxLive+1)...)); b != nil || errno != api.ErrArg {
		t.Errorf("%v, %d", b, errno)
	}
}

func TestWaysThatLookAlike(t *testing.T) { // P14.1: what is alike written in a row is not alike
	c := given(t, 40)
	b := run(t, c, said(t, c, "ann low q(1, 12).", "ann low q(11, 2).", "bob low q(11, 2).", "ann low q(a, a1).", "ann low q(aa, 1).", "ann low r(X, Y) :- W says q(X, Y).", "cat low r(X, Y) :- ann says q(X, Z), W says q(V, Y)."))
	counts(t, b, 5+4+16, 0)
}

func TestValuesThatMeet(t *testing.T) { // P14.1: constants, variables twice, speakers that are asked for
	c := given(t, 40)
	b := run(t, c, said(t, c, "ann low q(1, 1).", "ann low q(1, 2).", "bob low q(2, 2).", "ann left q(a, ann).", "ann low p(X) :- W says q(X, X).", "ann low p(W) :- W says q(2, 2).", "ann low ok(X) :- q(1, X), X says q(2, Y).",
		"ann low ok(Y) :- Y says q(X, Z), q(a, Y), not Y says p(3).", "ann low last(2) :- bob says q(2, 2), ann says q(1, 1)."))
	models(t, b, low, "7 1 ann says last(2)", "0 2 ann says p(1)", "0 2 ann says p(2)", "0 2 ann says p(bob)", "0 1 ann says q(1, 1)", "0 1 ann says q(1, 2)", "0 1 bob says q(2, 2)")
	models(t, b, left, "7 1 ann says last(2)", "2 1 ann says ok(ann)", "0 2 ann says p(1)", "0 2 ann says p(2)", "0 2 ann says p(bob)", "0 1 ann says q(1, 1)", "0 1 ann says q(1, 2)", "0 1 ann says q(a, ann)", "0 1 bob says q(2, 2)")
}
