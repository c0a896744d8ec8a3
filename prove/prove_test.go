package prove

import (
	"math"
	"reflect"
	"slices"
	"strconv"
	"strings"
	"testing"

	"mandate/api"
	"mandate/clause"
	"mandate/config"
	"mandate/lower"
)

// plainSetup is a configuration of four labels: left and right stand above low, top above all.
const plainSetup = `label low
label left
label right
label top
above left low
above right low
above top left
above top right
user ann low
user bob left
user cat right
user dan top
pred p 1 0
pred q 2 0
pred bad 1 1
pred ok 1 2
pred r 2 2
pred four 4 2
pred none 0 3
pred last 1 7
purse 9 900
`

const (
	low = iota
	left
	right
	top
)

func configured(t testing.TB, text string) api.Config {
	t.Helper()
	c, at, errno := config.Parse(text)
	if errno != api.OK {
		t.Fatalf("a configuration: %d at %d", errno, at)
	}
	return c
}

// given is the plain configuration with a bound.
func given(t testing.TB, bound int) api.Config {
	t.Helper()
	return configured(t, plainSetup+"bound "+strconv.Itoa(bound))
}

func ruled(t testing.TB, c api.Config, user int, text string) api.Rule {
	t.Helper()
	cl, at, errno := clause.Parse(text)
	if errno != api.OK {
		t.Fatalf("%q: %d at %d", text, errno, at)
	}
	r, errno := lower.Rule(c, user, cl)
	if errno != api.OK {
		t.Fatalf("%q of %d: %d", text, user, errno)
	}
	return r
}

// said is a live list of lines: a user's name, a label's name, a clause. Each has its line's number, from 1 on.
func said(t testing.TB, c api.Config, lines ...string) []api.Said {
	t.Helper()
	var l []api.Said
	for i, line := range lines {
		words := strings.SplitN(line, " ", 3)
		user, ok := config.User(c, words[0])
		label, too := config.Label(c, words[1])
		if !ok || !too {
			t.Fatalf("%q: no such user, or no such label", line)
		}
		l = append(l, api.Said{User: user, No: i + 1, Label: label, Rule: ruled(t, c, user, words[2])})
	}
	slices.SortStableFunc(l, func(a, b api.Said) int { return a.User - b.User })
	return l
}

func read(t testing.TB, text string) api.Tuple {
	t.Helper()
	x, ok := lower.Read(text)
	if !ok {
		t.Fatalf("%q is no atom", text)
	}
	return x
}

// spelt tells a tuple, also one that may not be.
func spelt(x api.Tuple) string {
	if text, ok := lower.Text(x); ok {
		return text
	}
	words := []string{"?", x.Pred}
	for _, v := range x.Args {
		words = append(words, v.Sym+"/"+strconv.FormatInt(v.Num, 10))
	}
	return strings.Join(words, " ")
}

// told spells a proof: of each node its user and number, its kids, its atom, what is not so.
func told(l []api.Node) []string {
	var lines []string
	for _, n := range l {
		kids := "-"
		for i, k := range n.Kids {
			if i == 0 {
				kids = strconv.Itoa(k)
			} else {
				kids += "," + strconv.Itoa(k)
			}
		}
		line := strconv.Itoa(n.User) + " " + strconv.Itoa(n.No) + " " + kids + " " + spelt(n.Tuple)
		for _, x := range n.Nots {
			line += " not " + spelt(x)
		}
		lines = append(lines, line)
	}
	return lines
}

func proves(t testing.TB, c api.Config, live []api.Said, label int, atom string, want ...string) {
	t.Helper()
	l, errno := Prove(c, live, label, read(t, atom))
	if got := told(l); !slices.Equal(got, want) || errno != api.OK {
		t.Errorf("%s at %d: %d:\n%s\nnot\n%s", atom, label, errno, strings.Join(got, "\n"), strings.Join(want, "\n"))
	}
}

func refuses(t testing.TB, c api.Config, live []api.Said, label int, x api.Tuple, want api.Errno) {
	t.Helper()
	if l, errno := Prove(c, live, label, x); len(l) != 0 || errno != want {
		t.Errorf("%s at %d: %q, %d, not %d", spelt(x), label, told(l), errno, want)
	}
}

func TestProve(t *testing.T) { // P15.1: the chapter's example, and the document's fourth one
	c := configured(t, "label low\nlabel high\nabove high low\nuser ann low\nuser bob high\npred p 1 0\npred bad 1 0\npred ok 1 1\nbound 20\npurse 9 900")
	live := said(t, c, "ann low p(a).", "ann low p(b).", "ann low ok(X) :- p(X), not bad(X).")
	proves(t, c, live, 0, "ann says ok(a)", "0 1 - ann says p(a)", "0 3 0 ann says ok(a) not ann says bad(a)")
	proves(t, c, live, 0, "ann says p(b)", "0 2 - ann says p(b)")
	live = said(t, c, "ann low p(a).", "ann low ok(X) :- p(X), not bob says p(X).", "bob high p(a).")
	proves(t, c, live, 0, "ann says ok(a)", "0 1 - ann says p(a)", "0 2 0 ann says ok(a) not bob says p(a)")
	refuses(t, c, live, 1, read(t, "ann says ok(a)"), api.ErrNone)
	proves(t, c, live, 1, "bob says p(a)", "1 3 - bob says p(a)")
}

func TestTheLeastAssertion(t *testing.T) { // P15.1: by the user, then by the number
	c := given(t, 30)
	live := said(t, c, "bob low p(1).", "ann low p(1).", "ann low q(1, 2).", "ann low p(1).", "ann low p(2) :- q(1, 2).", "ann low p(2).", "cat low p(3).", "ann low ok(X) :- p(X).", "ann low ok(X) :- q(X, Y).", "ann low ok(1).")
	proves(t, c, live, low, "ann says p(1)", "0 2 - ann says p(1)")
	proves(t, c, live, low, "bob says p(1)", "1 1 - bob says p(1)")
	proves(t, c, live, low, "ann says ok(1)", "0 2 - ann says p(1)", "0 8 0 ann says ok(1)")
	// It was found in round 1, in which the rule had nothing yet: so its way is the fact.
	proves(t, c, live, low, "ann says p(2)", "0 6 - ann says p(2)")
	proves(t, c, live[1:], low, "ann says ok(1)", "0 4 - ann says p(1)", "0 8 0 ann says ok(1)")
	proves(t, c, said(t, c, "ann low q(1, 2).", "ann low ok(X) :- p(X).", "ann low ok(X) :- q(X, Y).", "ann low ok(1)."), low, "ann says ok(1)", "0 1 - ann says q(1, 2)", "0 3 0 ann says ok(1)")
}

func TestTheLeastAssertionByNumber(t *testing.T) { // P15.1: numbers up to the last tick, not as they are written
	c := given(t, 30)
	live := said(t, c, "ann low p(1).", "ann low p(1).", "bob low p(1).", "bob low p(1).")
	for i, no := range []int{9, api.MaxTick, 10, 11} {
		live[i].No = no
	}
	proves(t, c, live, low, "ann says p(1)", "0 9 - ann says p(1)")
	proves(t, c, live[1:], low, "ann says p(1)", "0 1099511627776 - ann says p(1)")
	proves(t, c, live, low, "bob says p(1)", "1 10 - bob says p(1)")
}

func TestWhatIsNotHeard(t *testing.T) { // P15.1: no assertion that is not heard is cited
	c := given(t, 30)
	live := said(t, c, "ann left p(1).", "ann right p(1).", "ann top ok(X) :- p(X).", "ann low p(1).", "ann low ok(X) :- p(X), not bad(X).", "ann right bad(1).")
	for label, want := range map[int][]string{
		low:   {"0 4 - ann says p(1)", "0 5 0 ann says ok(1) not ann says bad(1)"},
		left:  {"0 1 - ann says p(1)", "0 5 0 ann says ok(1) not ann says bad(1)"},
		right: nil,
		top:   {"0 1 - ann says p(1)", "0 3 0 ann says ok(1)"},
	} {
		if want == nil {
			refuses(t, c, live, label, read(t, "ann says ok(1)"), api.ErrNone)
		} else {
			proves(t, c, live, label, "ann says ok(1)", want...)
		}
	}
}

func TestTheFirstKids(t *testing.T) { // P15.1: one by one, as they stand in the body, by the order of tuples
	c := given(t, 60)
	facts := []string{"ann low q(1, c).", "ann low q(1, b).", "bob low q(1, a).", "ann low q(2, b).", "ann low p(b).", "ann low p(c).", "ann low p(10).", "ann low p(9).", "cat low p(a)."}
	for rule, want := range map[string][]string{
		"ok(X) :- q(X, Y).":                       {"0 2 - ann says q(1, b)", "0 10 0 ann says ok(1)"},
		"ok(X) :- W says q(X, Y).":                {"0 2 - ann says q(1, b)", "0 10 0 ann says ok(1)"},
		"ok(X) :- W says q(X, Y), W != ann.":      {"1 3 - bob says q(1, a)", "0 10 0 ann says ok(1)"},
		"ok(X) :- W says q(X, Y), p(Y), Y != b.":  {"0 6 - ann says p(c)", "0 1 - ann says q(1, c)", "0 10 1,0 ann says ok(1)"},
		"ok(X) :- p(Y), W says q(X, Y).":          {"0 5 - ann says p(b)", "0 2 - ann says q(1, b)", "0 10 0,1 ann says ok(1)"},
		"ok(X) :- V says p(Y), W says q(X, Y).":   {"0 5 - ann says p(b)", "0 2 - ann says q(1, b)", "0 10 0,1 ann says ok(1)"},
		"ok(X) :- V says p(Y), bob says q(X, Y).": {"2 9 - cat says p(a)", "1 3 - bob says q(1, a)", "0 10 0,1 ann says ok(1)"},
		"ok(X) :- q(X, Y), p(Z), p(Y).":           {"0 8 - ann says p(9)", "0 5 - ann says p(b)", "0 2 - ann says q(1, b)", "0 10 2,0,1 ann says ok(1)"},
		"ok(X) :- q(X, Y), p(Z), 9 < Z, p(Y).":    {"0 7 - ann says p(10)", "0 5 - ann says p(b)", "0 2 - ann says q(1, b)", "0 10 2,0,1 ann says ok(1)"},
		"ok(X) :- p(Z), 9 < Z, q(X, Z), q(X, Y).": {"0 5 - ann says p(b)", "0 2 - ann says q(1, b)", "0 10 0,1,1 ann says ok(1)"},
		"ok(X) :- q(X, Y), q(X, Z), Y != Z.":      {"0 2 - ann says q(1, b)", "0 1 - ann says q(1, c)", "0 10 0,1 ann says ok(1)"},
		"ok(X) :- q(X, Y), q(X, Z), Z < Y.":       {"0 2 - ann says q(1, b)", "0 1 - ann says q(1, c)", "0 10 1,0 ann says ok(1)"},
		"ok(1) :- p(Z), p(Y), Y < Z.":             {"0 8 - ann says p(9)", "0 7 - ann says p(10)", "0 10 1,0 ann says ok(1)"},
	} {
		proves(t, c, said(t, c, append(facts, "ann low "+rule)...), low, "ann says ok(1)", want...)
	}
}

func TestValuesAlikeInARow(t *testing.T) { // P15.1: 1 and 11 are not 11 and 1, though they are the same digits
	c := given(t, 60)
	facts := []string{"ann low p(1).", "ann low p(11)."}
	for _, rest := range []string{"1, 11, a, b", "1, 11, a, c", "1, 11, b, c", "11, 1, a, b", "11, 1, c, c", "11, 1, b, a"} {
		facts = append(facts, "ann low four("+rest+").")
	}
	live := said(t, c, append(facts, "ann low last(1) :- p(X), p(Y), four(X, Y, Z, Z).")...)
	proves(t, c, live, low, "ann says last(1)", "0 1 - ann says p(1)", "0 2 - ann says p(11)", "0 7 - ann says four(11, 1, c, c)", "0 9 1,0,2 ann says last(1)")
}

func TestNots(t *testing.T) { // P15.1: as they stand in the body; none of them is in the model
	c := given(t, 60)
	facts := []string{"ann low p(1).", "ann low p(2).", "ann low bad(1).", "bob low bad(2)."}
	for rule, want := range map[string][]string{
		"ok(1) :- not bad(2).":                                         {"0 5 - ann says ok(1) not ann says bad(2)"},
		"ok(1) :- not bad(3), not bad(2), not bad(3).":                 {"0 5 - ann says ok(1) not ann says bad(3) not ann says bad(2) not ann says bad(3)"},
		"ok(1) :- not bad(X), p(X), not cat says p(X), not q(1, X).":   {"0 2 - ann says p(2)", "0 5 0 ann says ok(1) not ann says bad(2) not cat says p(2) not ann says q(1, 2)"},
		"ok(Y) :- p(X), not bob says bad(X), p(Y), not dan says p(Y).": {"0 1 - ann says p(1)", "0 5 0,0 ann says ok(1) not bob says bad(1) not dan says p(1)"},
	} {
		proves(t, c, said(t, c, append(facts, "ann low "+rule)...), low, "ann says ok(1)", want...)
	}
	// By a number's word nothing is so: such an atom is not in the model, though it may not be.
	live := said(t, c, "ann low p(7).", "ann low ok(X) :- p(X), not X says bad(X).")
	proves(t, c, live, low, "ann says ok(7)", "0 1 - ann says p(7)", "0 2 0 ann says ok(7) not ? bad /7 /7")
}

func TestEarlierRounds(t *testing.T) { // P15.1: kids were found in an earlier round than the atom
	c := given(t, 60)
	ring := []string{"ann low p(X) :- q(X, Y), p(Y).", "ann low q(1, 2).", "ann low q(2, 3).", "ann low q(3, 1).", "ann low q(1, 4).", "ann low p(4).", "ann low p(X) :- q(Y, X), p(Y)."}
	live := said(t, c, ring...)
	proves(t, c, live, low, "ann says p(1)", "0 6 - ann says p(4)", "0 5 - ann says q(1, 4)", "0 1 1,0 ann says p(1)")
	proves(t, c, live, low, "ann says p(3)", "0 6 - ann says p(4)", "0 5 - ann says q(1, 4)", "0 4 - ann says q(3, 1)", "0 1 1,0 ann says p(1)", "0 1 2,3 ann says p(3)")
	// p(2) was found in the same round as p(3), which is no kid of it then.
	proves(t, c, live, low, "ann says p(2)", "0 6 - ann says p(4)", "0 2 - ann says q(1, 2)", "0 5 - ann says q(1, 4)", "0 1 2,0 ann says p(1)", "0 7 1,3 ann says p(2)")
	// An atom that leans on itself has another way.
	live = said(t, c, "ann low p(X) :- p(X), q(X, X).", "ann low q(1, 1).", "ann low p(X) :- q(X, Y), q(Y, X).")
	proves(t, c, live, low, "ann says p(1)", "0 2 - ann says q(1, 1)", "0 3 0,0 ann says p(1)")
}

func TestNodesInOrder(t *testing.T) { // P15.1: by the stratum, by the round, by the order of tuples; the atom's own is the last one
	c := given(t, 60)
	live := said(t, c, "ann low q(1, 2).", "ann low p(X) :- q(X, Y).", "ann low q(Y, X) :- q(X, Y), p(X).", "ann low bad(Y) :- q(X, Y).", "ann low r(X, Y) :- p(X), bad(Y).",
		"bob low four(X, Y, Z, W) :- ann says r(X, Y), ann says q(Y, Z), ann says q(Z, W).", "ann low none :- bob says bad(3), p(1), q(1, 2), p(2), bob says p(2).", "bob low bad(3).", "bob low p(2).")
	proves(t, c, live, low, "bob says four(1, 2, 1, 2)",
		"0 1 - ann says q(1, 2)", "0 2 0 ann says p(1)", "0 3 0,1 ann says q(2, 1)", "0 4 0 ann says bad(2)", "0 5 1,3 ann says r(1, 2)", "1 6 4,2,0 bob says four(1, 2, 1, 2)")
	// p(2) of ann was found in round 4, behind all of rounds 1 to 3; ann's and bob's p stand ahead of q in one round.
	proves(t, c, live, low, "ann says none",
		"1 9 - bob says p(2)", "0 1 - ann says q(1, 2)", "0 2 1 ann says p(1)", "0 3 1,2 ann says q(2, 1)", "0 2 3 ann says p(2)", "1 8 - bob says bad(3)", "0 7 5,2,1,4,0 ann says none")
}

func TestProveRefuses(t *testing.T) { // P15.1
	c := given(t, 9)
	live := said(t, c, "ann low p(1).", "ann low ok(X) :- p(X).", "bob top p(2).")
	x := read(t, "ann says ok(1)")
	for _, label := range []int{-1, 4, 64, math.MinInt, math.MaxInt} {
		refuses(t, c, live, label, x, api.ErrArg)
		refuses(t, c, nil, label, x, api.ErrArg)
	}
	ann, one := api.Value{Sym: "ann"}, api.Value{Num: 1}
	for _, odd := range []api.Tuple{
		{}, {Pred: "ok"}, {Pred: "ok", Args: []api.Value{}}, {Pred: "ok", Args: []api.Value{one, one}}, {Pred: "ok", Args: []api.Value{{}, one}}, {Pred: "not", Args: []api.Value{ann, one}},
		{Args: []api.Value{ann, one}}, {Pred: "ok", Args: []api.Value{{Sym: "says"}, one}}, {Pred: "ok", Args: []api.Value{ann, {Sym: "a", Num: 1}}}, {Pred: "ok", Args: []api.Value{ann, {Sym: "X"}}},
		{Pred: "ok", Args: []api.Value{ann, one, one, one, one, one}}, {Pred: "seventeen_letters", Args: []api.Value{ann, one}},
	} {
		refuses(t, c, live, low, odd, api.ErrArg)
		refuses(t, c, nil, low, odd, api.ErrArg)
		refuses(t, given(t, 1), live, low, odd, api.ErrArg)
	}
	for what, change := range map[string]func(c *api.Config, l []api.Said){
		"users that fall":     func(c *api.Config, l []api.Said) { l[0], l[2] = l[2], l[0] },
		"numbers that fall":   func(c *api.Config, l []api.Said) { l[0], l[1] = l[1], l[0] },
		"a number twice":      func(c *api.Config, l []api.Said) { l[1].No = 1 },
		"no number":           func(c *api.Config, l []api.Said) { l[0].No = 0 },
		"no such label":       func(c *api.Config, l []api.Said) { l[2].Label = 4 },
		"no such user":        func(c *api.Config, l []api.Said) { l[2].User = 4 },
		"a tick below 0":      func(c *api.Config, l []api.Said) { l[2].Till = -1 },
		"another user's rule": func(c *api.Config, l []api.Said) { l[2].User = 3 },
		"no rule":             func(c *api.Config, l []api.Said) { l[1].Rule = api.Rule{} },
		"no bound":            func(c *api.Config, l []api.Said) { c.Bound = 0 },
		"no order":            func(c *api.Config, l []api.Said) { c.Up[0] = 0 },
		"no predicates":       func(c *api.Config, l []api.Said) { c.Preds = nil },
	} {
		changed, list := given(t, 9), slices.Clone(live)
		change(&changed, list)
		if l, errno := Prove(changed, list, low, x); len(l) != 0 || errno != api.ErrArg {
			t.Errorf("%s: %q, %d", what, told(l), errno)
		}
	}
	refuses(t, api.Config{}, nil, 0, x, api.ErrArg)
	refuses(t, c, said(t, c, many(api.MaxLive+1)...), low, x, api.ErrArg)
}

func TestOverAndNone(t *testing.T) { // P15.1
	c := given(t, 2)
	live := said(t, c, "ann low p(1).", "ann low ok(X) :- p(X).", "bob right p(2).")
	proves(t, c, live, low, "ann says ok(1)", "0 1 - ann says p(1)", "0 2 0 ann says ok(1)")
	proves(t, c, live, left, "ann says ok(1)", "0 1 - ann says p(1)", "0 2 0 ann says ok(1)")
	for _, atom := range []string{"ann says ok(1)", "ann says p(1)", "bob says p(2)", "ann says ok(2)", "ann says x"} {
		refuses(t, c, live, right, read(t, atom), api.ErrOver)
		refuses(t, c, live, top, read(t, atom), api.ErrOver)
	}
	for _, atom := range []string{"ann says ok(2)", "ann says ok(a)", "bob says ok(1)", "bob says p(2)", "ann says p", "ann says p(1, 1)", "ann says q(1, 1)", "ann says bad(1)", "ann says x(1)", "eve says ok(1)", "ann says ok"} {
		refuses(t, c, live, low, read(t, atom), api.ErrNone)
		refuses(t, c, nil, low, read(t, atom), api.ErrNone)
		refuses(t, c, []api.Said{}, top, read(t, atom), api.ErrNone)
	}
}

// many are facts p(0), p(1) and so on, and some lines ahead of them.
func many(n int, lines ...string) []string {
	for i := range n {
		lines = append(lines, "ann low p("+strconv.Itoa(i)+").")
	}
	return lines
}

func TestProveLeavesWhatItIsHanded(t *testing.T) { // P15.1, R4
	lines := []string{"ann low p(1).", "ann low q(1, 2).", "ann low ok(Y) :- q(X, Y), p(X), not bad(Y), X < Y.", "ann low r(X, Y) :- q(X, Y), ok(Y), q(X, Y), not bad(Y)."}
	c, other := given(t, 9), given(t, 9)
	room := append(said(t, c, lines...), api.Said{No: 77})
	live, x := room[:len(lines)], read(t, "ann says r(1, 2)")
	first, errno := Prove(c, live, top, x)
	want := told(first)
	if len(first) != 4 || errno != api.OK || !reflect.DeepEqual(c, other) || !reflect.DeepEqual(live, said(t, c, lines...)) || room[len(lines)].No != 77 {
		t.Errorf("%q, %d; changed: %v, %v", want, errno, c, room)
	}
	for _, n := range first {
		_, _ = append(n.Tuple.Args, api.Value{Sym: "x"}), append(n.Kids, 9)
		for _, y := range append(n.Nots, x) {
			_ = append(y.Args, api.Value{Sym: "x"})
		}
	}
	if again := told(first); !slices.Equal(again, want) {
		t.Errorf("nodes share memory: %q", again)
	}
	for i, n := range first {
		n.Tuple.Args[0] = api.Value{Sym: "node" + strconv.Itoa(i)}
		for k := range n.Kids {
			n.Kids[k] = 70 + i
		}
		for k := range n.Nots {
			n.Nots[k].Args[0] = api.Value{Sym: "not" + strconv.Itoa(i)}
		}
	}
	for i, n := range first {
		if n.Tuple.Args[0].Sym != "node"+strconv.Itoa(i) || slices.ContainsFunc(n.Kids, func(k int) bool { return k != 70+i }) {
			t.Errorf("nodes share memory: %v", n)
		}
	}
	proves(t, c, live, top, "ann says r(1, 2)", want...)
	if !reflect.DeepEqual(live, said(t, c, lines...)) || spelt(x) != "ann says r(1, 2)" {
		t.Errorf("an answer shares memory with what was handed in: %v, %v", live, x)
	}
}

func TestProveIsTheSameEachTime(t *testing.T) { // P15.1, R5
	c := given(t, api.MaxBound)
	live := said(t, c, many(12, "ann low r(X, Y) :- p(X), p(Y), X < Y.", "ann low ok(X) :- r(X, Y), r(Y, Z), not bad(Z).", "ann low last(9) :- ok(9), r(0, 1), ok(3), ok(4), W says ok(5).")...)
	first, errno := Prove(c, live, top, read(t, "ann says last(9)"))
	if len(first) < 10 || errno != api.OK {
		t.Fatalf("%d, %d", len(first), errno)
	}
	for range 20 {
		if l, _ := Prove(c, live, top, read(t, "ann says last(9)")); !reflect.DeepEqual(l, first) {
			t.Fatal("another answer")
		}
	}
}

func TestDepth(t *testing.T) { // P15.2
	for want, list := range map[int][][][]int{
		0: {nil, {}, {{0}}, {{1}}, {{-1}}, {{1}, {1}}, {{math.MaxInt}}, {{math.MinInt}}},
		1: {{{}}, {nil}, {{}, {}, {}}, {{}, {1}}, {{}, {2}, {}}, {{0}, {0}}, {{}, {0, -1}}, {{}, {0, 1}}, {{}, {4}, {}, {0, 3}}},
		2: {{{}, {0}}, {{}, {0}, {}}, {{}, {0}, {0}}, {{0}, {0}, {1}}, {{}, {}, {0, 1, 0}}, {{}, {5}, {1}, {2, 0}}, {{}, {0}, {2}, {3, 1}}},
		3: {{{}, {0}, {0, 1}}, {{}, {0}, {1, 0}}, {{}, {0}, {1}, {}}, {{}, {0}, {9}, {1}}},
		5: {{{}, {0}, {1}, {2}, {3, 3, 0}}},
	} {
		for _, kids := range list {
			var l []api.Node
			for _, k := range kids {
				l = append(l, api.Node{Kids: k})
			}
			if got := Depth(l); got != want {
				t.Errorf("%v: %d, not %d", kids, got, want)
			}
		}
	}
	var long []api.Node
	for i := range 100000 {
		long = append(long, api.Node{Kids: []int{max(i-1, 0)}})
	}
	long[0].Kids = nil
	if got := Depth(long); got != len(long) {
		t.Errorf("a long list: %d", got)
	}
}

func TestDepthOfProofs(t *testing.T) { // P15.2
	c := given(t, 60)
	live := said(t, c, "ann low p(1).", "ann low p(2).", "ann low bad(X) :- p(X).", "ann low ok(X) :- bad(X), p(2), bad(2).", "ann low last(X) :- ok(X), p(X).")
	for atom, want := range map[string]int{"ann says p(1)": 1, "ann says bad(2)": 2, "ann says ok(1)": 3, "ann says last(2)": 4} {
		if l, errno := Prove(c, live, low, read(t, atom)); Depth(l) != want || errno != api.OK {
			t.Errorf("%s: %d, not %d: %q", atom, Depth(l), want, told(l))
		}
	}
}
