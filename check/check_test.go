package check

import (
	"math"
	"reflect"
	"slices"
	"strconv"
	"strings"
	"testing"

	"mandate/api"
	"mandate/clause"
	"mandate/config"
	"mandate/lower"
	"mandate/prove"
	"mandate/value"
)

// plainSetup is a configuration of four labels: left and right stand above low, top above all.
const plainSetup = `label low
label left
label right
label top
above left low
above right low
above top left
above top right
user ann low
user bob left
user cat right
user dan top
pred p 1 0
pred q 2 0
pred bad 1 1
pred ok 1 2
pred r 2 2
pred four 4 2
pred none 0 3
pred last 1 7
purse 9 900
`

const (
	low = iota
	onLeft
	onRight
	top
)

// given is the plain configuration with a bound.
func given(t testing.TB, bound int) api.Config {
	t.Helper()
	c, at, errno := config.Parse(plainSetup + "bound " + strconv.Itoa(bound))
	if errno != api.OK {
		t.Fatalf("a configuration: %d at %d", errno, at)
	}
	return c
}

func ruled(t testing.TB, c api.Config, user int, text string) api.Rule {
	t.Helper()
	cl, at, errno := clause.Parse(text)
	if errno != api.OK {
		t.Fatalf("%q: %d at %d", text, errno, at)
	}
	r, errno := lower.Rule(c, user, cl)
	if errno != api.OK {
		t.Fatalf("%q of %d: %d", text, user, errno)
	}
	return r
}

// said is a live list of lines: a user's name, a label's name, a clause. Each has its line's number, from 1 on.
func said(t testing.TB, c api.Config, lines ...string) []api.Said {
	t.Helper()
	var l []api.Said
	for i, line := range lines {
		words := strings.SplitN(line, " ", 3)
		user, ok := config.User(c, words[0])
		label, too := config.Label(c, words[1])
		if !ok || !too {
			t.Fatalf("%q: no such user, or no such label", line)
		}
		l = append(l, api.Said{User: user, No: i + 1, Label: label, Rule: ruled(t, c, user, words[2])})
	}
	slices.SortStableFunc(l, func(a, b api.Said) int { return a.User - b.User })
	return l
}

// read is the atom that a text is.
func read(t testing.TB, text string) api.Tuple {
	t.Helper()
	x, ok := lower.Read(text)
	if !ok {
		t.Fatalf("%q is no atom", text)
	}
	return x
}

// proof is the text of lines, and its nodes.
func proof(t testing.TB, lines ...string) (string, []api.Node) {
	t.Helper()
	text := strings.Join(append(lines, ""), "\n")
	l, at, errno := Read(text)
	if errno != api.OK {
		t.Fatalf("%q: %d at %d", text, errno, at)
	}
	return text, l
}

// world is what proofs are held against.
type world struct {
	c    api.Config
	live []api.Said
}

// says tells what Accept and AcceptText must answer of lines.
func (w world) says(t testing.TB, label int, atom string, want api.Errno, lines ...string) {
	t.Helper()
	text, l := proof(t, lines...)
	w.nodes(t, label, atom, want, l)
	if errno := AcceptText(w.c, w.live, label, read(t, atom), text); errno != want {
		t.Errorf("%s at %d by the text %.300q: %d, not %d", atom, label, lines, errno, want)
	}
}

// nodes tells what Accept must answer of nodes, that may have no text.
func (w world) nodes(t testing.TB, label int, atom string, want api.Errno, l []api.Node) {
	t.Helper()
	if errno := Accept(w.c, w.live, label, read(t, atom), l); errno != want {
		t.Errorf("%s at %d by %.300v: %d, not %d", atom, label, l, errno, want)
	}
}

// plainWorld has a user's facts and one rule, as in the chapter's example.
func plainWorld(t testing.TB) world {
	t.Helper()
	c := given(t, 20)
	return world{c, said(t, c, "ann low p(a).", "ann low p(b).", "ann low ok(X) :- p(X), not bad(X).", "bob low p(a).", "ann left p(c).", "bob right ok(X) :- ann says p(X), p(X).")}
}

const (
	first  = "0 1 - ann says p(a)"
	second = "0 3 0 ann says ok(a) not ann says bad(a)"
)

func TestAccept(t *testing.T) { // P16.2: the chapter's example; what is more than the canonical proof
	w := plainWorld(t)
	for label := range 4 {
		w.says(t, label, "ann says ok(a)", api.OK, first, second)
		w.says(t, label, "ann says ok(a)", api.ErrProof, first)
		w.says(t, label, "ann says p(a)", api.OK, first)
		w.says(t, label, "ann says ok(b)", api.OK, "0 2 - ann says p(b)", "0 3 0 ann says ok(b) not ann says bad(b)")
	}
	w.says(t, low, "ann says ok(a)", api.OK, "0 2 - ann says p(b)", first, "1 4 - bob says p(a)", "0 3 0 ann says ok(b) not ann says bad(b)", first, "0 3 4 ann says ok(a) not ann says bad(a)")
	w.says(t, low, "ann says ok(a)", api.OK, first, second, "0 2 - ann says p(b)", second)
	w.says(t, low, "ann says p(b)", api.OK, first, second, "0 2 - ann says p(b)")
	w.says(t, onRight, "bob says ok(a)", api.OK, first, "1 4 - bob says p(a)", "1 6 0,1 bob says ok(a)")
	w.says(t, onRight, "bob says ok(a)", api.OK, "1 4 - bob says p(a)", first, "1 6 1,0 bob says ok(a)")
}

func TestAcceptRefuses(t *testing.T) { // P16.2
	w := plainWorld(t)
	for what, lines := range map[string][]string{
		"no node":                     nil,
		"the kid alone":               {first},
		"the node alone":              {second},
		"another order":               {second, first},
		"another atom":                {first, second, "0 2 - ann says p(b)"},
		"no nots":                     {first, "0 3 0 ann says ok(a)"},
		"another not":                 {first, "0 3 0 ann says ok(a) not ann says bad(b)"},
		"a not by another's word":     {first, "0 3 0 ann says ok(a) not bob says bad(a)"},
		"a not of another predicate":  {first, "0 3 0 ann says ok(a) not ann says p(a)"},
		"a not twice":                 {first, "0 3 0 ann says ok(a) not ann says bad(a) not ann says bad(a)"},
		"no kid":                      {first, "0 3 - ann says ok(a) not ann says bad(a)"},
		"a kid twice":                 {first, "0 3 0,0 ann says ok(a) not ann says bad(a)"},
		"its own place":               {first, "0 3 1 ann says ok(a) not ann says bad(a)"},
		"a place behind":              {first, "0 3 2 ann says ok(a) not ann says bad(a)", first, second},
		"a place that there is not":   {first, "0 3 4095 ann says ok(a) not ann says bad(a)"},
		"a kid that is another's":     {"1 4 - bob says p(a)", second},
		"another kid":                 {"0 2 - ann says p(b)", second},
		"a kid that does not hold":    {"0 2 - ann says p(a)", second},
		"no such number":              {first, "0 7 0 ann says ok(a) not ann says bad(a)"},
		"the last number":             {first, "0 1099511627776 0 ann says ok(a) not ann says bad(a)"},
		"another's number":            {first, "0 4 0 ann says ok(a) not ann says bad(a)"},
		"another user":                {first, "1 3 0 ann says ok(a) not ann says bad(a)"},
		"no such user":                {first, "15 3 0 ann says ok(a) not ann says bad(a)"},
		"another rule":                {first, "0 2 0 ann says ok(a) not ann says bad(a)"},
		"a fact made up":              {first, "0 1 - ann says ok(a)"},
		"a fact with kids":            {"0 2 - ann says p(b)", "0 1 0 ann says p(a)", "0 3 1 ann says ok(a) not ann says bad(a)"},
		"a fact with nots":            {"0 1 - ann says p(a) not ann says bad(a)", second},
		"more that does not hold":     {first, "0 2 - ann says p(c)", second},
		"more that is not heard":      {first, "0 5 - ann says p(c)", second},
		"more of no rule":             {first, "0 1 - bob says bad(b)", second},
		"more that leans on itself":   {first, "0 3 1 ann says ok(b) not ann says bad(b)", second},
		"more that leans on the last": {first, "0 3 2 ann says ok(a) not ann says bad(a)", second},
	} {
		w.says(t, low, "ann says ok(a)", api.ErrProof, lines...)
		if t.Failed() {
			t.Fatal(what)
		}
	}
	for _, atom := range []string{"ann says ok(b)", "bob says ok(a)", "ann says p(a)", "ann says ok", "ann says ok(a, a)", "ann says bad(a)", "eve says x", "ann says ok(0)"} {
		w.says(t, low, atom, api.ErrProof, first, second)
	}
	w.says(t, onRight, "bob says ok(a)", api.ErrProof, first, "1 4 - bob says p(a)", "1 6 1,0 bob says ok(a)")
	w.says(t, onRight, "bob says ok(a)", api.ErrProof, first, "1 4 - bob says p(a)", "1 6 0,0 bob says ok(a)")
	w.says(t, onRight, "bob says ok(a)", api.ErrProof, "0 2 - ann says p(b)", "1 4 - bob says p(a)", "1 6 0,1 bob says ok(a)")
}

func TestNodesWithoutAText(t *testing.T) { // P16.2: whatever nodes are handed in
	w := plainWorld(t)
	_, l := proof(t, first, second)
	for what, change := range map[string]func(n []api.Node){
		"no atom":          func(n []api.Node) { n[0].Tuple = api.Tuple{} },
		"no node":          func(n []api.Node) { n[0] = api.Node{} },
		"a user below 0":   func(n []api.Node) { n[0].User = -1 },
		"a great user":     func(n []api.Node) { n[0].User = math.MaxInt },
		"the number 0":     func(n []api.Node) { n[0].No = 0 },
		"the least number": func(n []api.Node) { n[0].No = math.MinInt },
		"a great number":   func(n []api.Node) { n[1].No = math.MaxInt },
		"a kid below 0":    func(n []api.Node) { n[1].Kids[0] = -1 },
		"the least kid":    func(n []api.Node) { n[1].Kids[0] = math.MinInt },
		"the greatest kid": func(n []api.Node) { n[1].Kids[0] = math.MaxInt },
		"kids":             func(n []api.Node) { n[1].Kids = make([]int, 1000) },
		"nots":             func(n []api.Node) { n[1].Nots = make([]api.Tuple, 1000) },
		"a kid of a fact":  func(n []api.Node) { n[0].Kids = []int{-1} },
		"an odd not": func(n []api.Node) {
			n[1].Nots = []api.Tuple{{Pred: "bad", Args: []api.Value{{Sym: "ann"}, {Sym: "a", Num: 1}}}}
		},
		"no speaker":         func(n []api.Node) { n[1].Nots[0].Args = n[1].Nots[0].Args[1:] },
		"an odd kid":         func(n []api.Node) { n[0].Tuple.Args[1] = api.Value{Sym: "a", Num: 1} },
		"an odd head":        func(n []api.Node) { n[1].Tuple.Args[1] = api.Value{Sym: "a", Num: 1} },
		"a head of numbers":  func(n []api.Node) { n[1].Tuple.Args[0] = api.Value{} },
		"a head with more":   func(n []api.Node) { n[1].Tuple.Args = append(n[1].Tuple.Args, api.Value{Sym: "a"}) },
		"a head with less":   func(n []api.Node) { n[1].Tuple.Args = n[1].Tuple.Args[:1] },
		"another predicate":  func(n []api.Node) { n[1].Tuple.Pred = "bad" },
		"a not without args": func(n []api.Node) { n[1].Nots[0].Args = nil },
	} {
		_, changed := proof(t, first, second)
		change(changed)
		w.nodes(t, low, "ann says ok(a)", api.ErrProof, changed)
		w.nodes(t, low, "ann says ok(a)", api.ErrProof, append(changed, l...))
		if t.Failed() {
			t.Fatal(what)
		}
	}
	w.nodes(t, low, "ann says ok(a)", api.ErrProof, nil)
	w.nodes(t, low, "ann says ok(a)", api.ErrProof, []api.Node{})
	empty := []api.Node{{No: 1, Tuple: l[0].Tuple, Kids: []int{}, Nots: []api.Tuple{}}, l[1]}
	w.nodes(t, low, "ann says ok(a)", api.OK, empty)
}

func TestHowManyNodes(t *testing.T) { // P16.2
	w := plainWorld(t)
	_, l := proof(t, first)
	many := slices.Repeat(l, api.MaxNodes)
	w.nodes(t, low, "ann says p(a)", api.OK, many)
	w.nodes(t, low, "ann says p(a)", api.ErrProof, append(many, l[0]))
	many = append(many[:api.MaxNodes-1], api.Node{No: 3, Kids: []int{api.MaxNodes - 2}, Tuple: read(t, "ann says ok(a)"), Nots: []api.Tuple{read(t, "ann says bad(a)")}})
	w.nodes(t, low, "ann says ok(a)", api.OK, many)
	many[api.MaxNodes-1].Kids[0]++
	w.nodes(t, low, "ann says ok(a)", api.ErrProof, many)
}

func TestWhatIsHeard(t *testing.T) { // P16.2
	w := plainWorld(t)
	for label, want := range map[int]api.Errno{low: api.ErrProof, onLeft: api.OK, onRight: api.ErrProof, top: api.OK} {
		w.says(t, label, "ann says p(c)", want, "0 5 - ann says p(c)")
		w.says(t, label, "ann says ok(c)", want, "0 5 - ann says p(c)", "0 3 0 ann says ok(c) not ann says bad(c)")
	}
	for label, want := range map[int]api.Errno{low: api.ErrProof, onLeft: api.ErrProof, onRight: api.OK, top: api.OK} {
		w.says(t, label, "bob says ok(a)", want, first, "1 4 - bob says p(a)", "1 6 0,1 bob says ok(a)")
	}
	// Of 64 labels each hears itself and the first one, the last one all.
	var text, above strings.Builder
	for i := range api.MaxLabels {
		text.WriteString("label l" + strconv.Itoa(i) + "\n")
		if i > 0 {
			above.WriteString("above l" + strconv.Itoa(i) + " l0\n")
		}
		if 0 < i && i < 63 {
			above.WriteString("above l63 l" + strconv.Itoa(i) + "\n")
		}
	}
	c, at, errno := config.Parse(text.String() + above.String() + "user ann l0\npred p 1 0\nbound 20\npurse 9 900")
	if errno != api.OK {
		t.Fatal(errno, at)
	}
	var lines []string
	for i := range api.MaxLabels {
		lines = append(lines, "ann l"+strconv.Itoa(i)+" p("+strconv.Itoa(i)+").")
	}
	w = world{c, said(t, c, lines...)}
	for _, said := range []int{0, 1, 31, 32, 62, 63} {
		for label := range api.MaxLabels {
			want := api.ErrProof
			if said == 0 || said == label || label == 63 {
				want = api.OK
			}
			w.says(t, label, "ann says p("+strconv.Itoa(said)+")", want, "0 "+strconv.Itoa(said+1)+" - ann says p("+strconv.Itoa(said)+")")
		}
	}
}

func TestNoModelIsKnown(t *testing.T) { // P16.2: what must not be is not looked for, nor how many atoms there are, nor what is over
	c := given(t, 1)
	w := world{c, said(t, c, "ann low p(a).", "ann low p(b).", "ann low ok(X) :- p(X), not bad(X).", "ann low bad(a).")}
	w.live[0].Till, w.live[2].Till = 1, api.MaxTick
	w.says(t, low, "ann says ok(a)", api.OK, first, second)
	w.says(t, low, "ann says bad(a)", api.OK, "0 4 - ann says bad(a)")
	w.says(t, low, "ann says bad(b)", api.ErrProof, "0 4 - ann says bad(b)")
}

func TestValues(t *testing.T) { // P16.2: one value for each variable, wherever it stands; each comparison
	c := given(t, 60)
	facts := []string{"ann low q(1, 2).", "ann low q(2, 1).", "ann low q(2, 2).", "bob low p(1).", "bob low p(2).", "ann low p(9).", "ann low p(10).", "ann low p(a)."}
	nodes := []string{"0 1 - ann says q(1, 2)", "0 2 - ann says q(2, 1)", "0 3 - ann says q(2, 2)", "1 4 - bob says p(1)", "1 5 - bob says p(2)", "0 6 - ann says p(9)", "0 7 - ann says p(10)", "0 8 - ann says p(a)"}
	for rule, lasts := range map[string]map[string]api.Errno{
		"ok(X) :- q(X, Y), bob says p(Y).": {
			"0,4 ann says ok(1)": api.OK, "1,3 ann says ok(2)": api.OK, "2,4 ann says ok(2)": api.OK,
			"0,3 ann says ok(1)": api.ErrProof, "1,4 ann says ok(2)": api.ErrProof, "0,4 ann says ok(2)": api.ErrProof, "4,0 ann says ok(1)": api.ErrProof, "0,4 bob says ok(1)": api.ErrProof, "0 ann says ok(1)": api.ErrProof, "0,4,4 ann says ok(1)": api.ErrProof, "- ann says ok(1)": api.ErrProof,
		},
		"r(X, Y) :- q(X, X), not bad(X), q(X, Y), not bob says bad(Y).": {
			"2,2 ann says r(2, 2) not ann says bad(2) not bob says bad(2)": api.OK, "2,1 ann says r(2, 1) not ann says bad(2) not bob says bad(1)": api.OK,
			"2,1 ann says r(2, 1) not bob says bad(1) not ann says bad(2)": api.ErrProof, "2,1 ann says r(1, 2) not ann says bad(2) not bob says bad(1)": api.ErrProof, "1,2 ann says r(2, 2) not ann says bad(2) not bob says bad(2)": api.ErrProof,
			"2,1 ann says r(2, 1) not ann says bad(1) not bob says bad(1)": api.ErrProof, "2,1 ann says r(2, 1) not ann says bad(2)": api.ErrProof, "2,0 ann says r(2, 2) not ann says bad(2) not bob says bad(2)": api.ErrProof,
		},
		"ok(X) :- X < Z, W says p(X), Z != a, W says p(Z), 1 < X.": {
			"5,6 ann says ok(9)": api.OK, "5,7 ann says ok(9)": api.ErrProof, "6,5 ann says ok(10)": api.ErrProof, "3,4 ann says ok(1)": api.ErrProof, "4,5 ann says ok(2)": api.ErrProof, "5,5 ann says ok(9)": api.ErrProof, "6,7 ann says ok(10)": api.ErrProof,
		},
		"ok(7) :- V says p(X), W says p(Y), V != W, Y != X.": {
			"3,5 ann says ok(7)": api.OK, "5,3 ann says ok(7)": api.OK, "7,4 ann says ok(7)": api.OK, "3,4 ann says ok(7)": api.ErrProof, "3,3 ann says ok(7)": api.ErrProof, "5,7 ann says ok(7)": api.ErrProof, "3,5 ann says ok(8)": api.ErrProof, "0,5 ann says ok(7)": api.ErrProof,
		},
		"none :- not W says bad(W), W says p(Y), 9 < Y, W < b.": {
			"6 ann says none not ann says bad(ann)": api.OK, "7 ann says none not ann says bad(ann)": api.OK, "5 ann says none not ann says bad(ann)": api.ErrProof, "4 ann says none not bob says bad(bob)": api.ErrProof, "6 ann says none not ann says bad(bob)": api.ErrProof, "6 ann says none not bob says bad(ann)": api.ErrProof,
		},
		"none :- 1 < 2, a != b, not p(3).":          {"- ann says none not ann says p(3)": api.OK, "- ann says none": api.ErrProof, "0 ann says none not ann says p(3)": api.ErrProof},
		"none :- 2 < 1.":                            {"- ann says none": api.ErrProof},
		"none :- a != a.":                           {"- ann says none": api.ErrProof},
		"none :- a < a.":                            {"- ann says none": api.ErrProof},
		"none :- -1 < 0, 0 < a, a < aa, -1 != a.":   {"- ann says none": api.OK, "- bob says none": api.ErrProof, "- ann says none not ann says none": api.ErrProof},
		"none :- p(a), p(9), p(a), p(10), p(a).":    {"7,5,7,6,7 ann says none": api.OK, "7,5,7,6 ann says none": api.ErrProof, "7,5,7,7,6 ann says none": api.ErrProof, "7,5,6 ann says none": api.ErrProof, "7,5,7,6,7,7 ann says none": api.ErrProof},
		"four(X, Y, X, 0) :- q(X, Y), q(Y, X).":     {"0,1 ann says four(1, 2, 1, 0)": api.OK, "2,2 ann says four(2, 2, 2, 0)": api.OK, "0,1 ann says four(1, 2, 2, 0)": api.ErrProof, "0,1 ann says four(1, 2, 1, 1)": api.ErrProof, "0,0 ann says four(1, 2, 1, 0)": api.ErrProof, "0,2 ann says four(1, 2, 1, 0)": api.ErrProof},
		"ok(W) :- W says p(X), W says p(Y), Y < X.": {"4,3 ann says ok(bob)": api.OK, "6,5 ann says ok(ann)": api.OK, "6,5 ann says ok(bob)": api.ErrProof, "6,4 ann says ok(ann)": api.ErrProof, "3,4 ann says ok(bob)": api.ErrProof, "6,5 ann says ok(0)": api.ErrProof},
	} {
		w := world{c, said(t, c, append(facts, "ann low "+rule)...)}
		for last, want := range lasts {
			_, atom, _ := strings.Cut(last, " ")
			atom, _, _ = strings.Cut(atom, " not ")
			w.says(t, low, atom, want, append(nodes, "0 9 "+last)...)
		}
	}
}

func TestByANumbersWord(t *testing.T) { // P16.2: what must not be need not be an atom that may be
	c := given(t, 9)
	w := world{c, said(t, c, "ann low p(7).", "ann low ok(X) :- p(X), not X says bad(X).")}
	l, errno := prove.Prove(c, w.live, low, read(t, "ann says ok(7)"))
	if errno != api.OK {
		t.Fatal(errno)
	}
	w.nodes(t, low, "ann says ok(7)", api.OK, l)
	noPrint(t, "a number's word", l, api.ErrArg)
	if got := Leaves(l); len(got) != 1 || value.Order(got[0], of("bad", num(7), num(7))) != 0 {
		t.Errorf("%v", got)
	}
	l[1].Nots[0].Args[0].Num++
	w.nodes(t, low, "ann says ok(7)", api.ErrProof, l)
}

func TestMayItBeAsked(t *testing.T) { // P16.2: ahead of what is wrong with the proof, and with its text
	w := plainWorld(t)
	long := strings.Repeat("x", api.MaxProof+1)
	text, l := proof(t, first, second)
	asks := func(what string, c api.Config, live []api.Said, label int, x api.Tuple) {
		t.Helper()
		for _, some := range [][]api.Node{l, nil, l[:1], {{User: -1}}, nodes(api.MaxNodes + 1)} {
			if errno := Accept(c, live, label, x, some); errno != api.ErrArg {
				t.Errorf("%s: %d of %d nodes", what, errno, len(some))
			}
		}
		for _, some := range []string{text, "", first, "x\n", long, strings.Repeat(plainLine, api.MaxNodes+1)} {
			if errno := AcceptText(c, live, label, x, some); errno != api.ErrArg {
				t.Errorf("%s: %d of %.40q", what, errno, some)
			}
		}
	}
	x, ann, one := read(t, "ann says ok(a)"), sym("ann"), num(1)
	for _, label := range []int{-1, 4, 63, 64, math.MinInt, math.MaxInt} {
		asks("no such label", w.c, w.live, label, x)
		asks("no such label", w.c, nil, label, x)
	}
	for _, odd := range []api.Tuple{
		{}, {Pred: "ok"}, of("ok", one, one), of("", ann), of("not", ann, one), of("ok", sym("says")), of("ok", ann, sym("X")), of("ok", ann, api.Value{Sym: "a", Num: 1}), of("ok", ann, one, one, one, one, one), of("ppppppppppppppppp", ann),
	} {
		asks("a tuple that may not be", w.c, w.live, low, odd)
		asks("a tuple that may not be", w.c, nil, low, odd)
	}
	for what, change := range map[string]func(c *api.Config, l []api.Said){
		"users that fall":     func(c *api.Config, l []api.Said) { l[0], l[5] = l[5], l[0] },
		"numbers that fall":   func(c *api.Config, l []api.Said) { l[0], l[1] = l[1], l[0] },
		"a number twice":      func(c *api.Config, l []api.Said) { l[1].No = 1 },
		"no number":           func(c *api.Config, l []api.Said) { l[0].No = 0 },
		"no such label":       func(c *api.Config, l []api.Said) { l[2].Label = 4 },
		"no label below 0":    func(c *api.Config, l []api.Said) { l[2].Label = -1 },
		"no such user":        func(c *api.Config, l []api.Said) { l[5].User = 4 },
		"a tick below 0":      func(c *api.Config, l []api.Said) { l[2].Till = -1 },
		"a tick too late":     func(c *api.Config, l []api.Said) { l[2].Till = api.MaxTick + 1 },
		"another user's rule": func(c *api.Config, l []api.Said) { l[5].User = 3 },
		"no rule":             func(c *api.Config, l []api.Said) { l[1].Rule = api.Rule{} },
		"no bound":            func(c *api.Config, l []api.Said) { c.Bound = 0 },
		"no order":            func(c *api.Config, l []api.Said) { c.Up[0] = 0 },
		"no predicates":       func(c *api.Config, l []api.Said) { c.Preds = nil },
	} {
		c, live := given(t, 20), slices.Clone(w.live)
		change(&c, live)
		asks(what, c, live, low, x)
	}
	asks("no configuration", api.Config{}, nil, 0, x)
	var lines []string
	for range api.MaxLive + 1 {
		lines = append(lines, "ann low p(a).")
	}
	asks("a list too long", w.c, said(t, w.c, lines...), low, x)
	w.live = said(t, w.c, append(lines[2:], "ann low ok(X) :- p(X), not bad(X).")...)
	w.says(t, low, "ann says ok(a)", api.OK, first, "0 512 0 ann says ok(a) not ann says bad(a)")
}

func TestAcceptTextReads(t *testing.T) { // P16.2
	w := plainWorld(t)
	x := read(t, "ann says ok(a)")
	for text, want := range map[string]api.Errno{
		first + "\n" + second + "\n":        api.OK,
		"":                                  api.ErrProof,
		first + "\n" + second:               api.ErrLine,
		first + "\n" + second + "\n\n":      api.ErrLine,
		"\n" + first + "\n" + second + "\n": api.ErrLine,
		first + "\r\n" + second + "\r\n":    api.ErrLine,
		first + " \n" + second + "\n":       api.ErrLine,
		"x":                                 api.ErrLine,
		"0 9 - ann says p(a)\n" + second + "\nx\n":                api.ErrLine,
		strings.Repeat(plainLine, api.MaxNodes+1):                 api.ErrFull,
		strings.Repeat(plainLine, api.MaxNodes) + "x":             api.ErrFull,
		strings.Repeat(plainLine, api.MaxNodes-1) + "x":           api.ErrLine,
		strings.Repeat(plainLine, api.MaxNodes-1) + first:         api.ErrLine,
		strings.Repeat(plainLine, api.MaxNodes):                   api.ErrProof,
		strings.Repeat(plainLine, api.MaxNodes-1) + second + "\n": api.OK,
		strings.Repeat(" ", api.MaxProof+1):                       api.ErrLong,
		strings.Repeat(" ", api.MaxProof):                         api.ErrLine,
		strings.Repeat(plainLine, api.MaxProof/20+1):              api.ErrLong,
	} {
		if errno := AcceptText(w.c, w.live, low, x, text); errno != want {
			t.Errorf("%.100q: %d, not %d", text, errno, want)
		}
	}
}

func TestAcceptLeavesWhatItIsHanded(t *testing.T) { // P16.2, R4, R5
	w, other := plainWorld(t), plainWorld(t)
	w.live = append(w.live, api.Said{No: 77})[:len(w.live)]
	text, l := proof(t, first, second)
	l = append(l, api.Node{No: 77})[:2]
	l[1].Kids = append(l[1].Kids, 55)[:1]
	x := read(t, "ann says ok(a)")
	for range 3 {
		if Accept(w.c, w.live, top, x, l) != api.OK || AcceptText(w.c, w.live, top, x, text) != api.OK || Accept(w.c, w.live, top, x, l[:1]) != api.ErrProof {
			t.Error("another answer")
		}
	}
	_, same := proof(t, first, second)
	if !reflect.DeepEqual(w, other) || !reflect.DeepEqual(l, same) || w.live[:len(w.live)+1][len(w.live)].No != 77 || l[:3][2].No != 77 || l[1].Kids[:2][1] != 55 {
		t.Errorf("changed: %v, %v", w, l)
	}
}

func TestLeaves(t *testing.T) { // P16.3
	ann, bob := sym("ann"), sym("bob")
	nots := func(l ...api.Tuple) api.Node { return api.Node{Tuple: of("x", ann), Kids: []int{0}, Nots: l} }
	for _, one := range []struct {
		l    []api.Node
		want []api.Tuple
	}{
		{nil, nil},
		{[]api.Node{}, nil},
		{[]api.Node{plain(), {}, {Nots: []api.Tuple{}}}, nil},
		{[]api.Node{plain(), nots(of("bad", ann, sym("a")))}, []api.Tuple{of("bad", ann, sym("a"))}},
		{[]api.Node{nots(of("q", bob), of("q", ann), of("p", ann, num(1)), of("q", bob))}, []api.Tuple{of("p", ann, num(1)), of("q", ann), of("q", bob)}},
		{[]api.Node{nots(of("q", bob), of("p", bob)), plain(), nots(of("p", ann, num(10)), of("p", bob)), nots(of("p", ann, num(9)), of("p", ann, sym("a")), of("o", ann)), nots(of("q", bob))},
			[]api.Tuple{of("o", ann), of("p", bob), of("p", ann, num(9)), of("p", ann, num(10)), of("p", ann, sym("a")), of("q", bob)}},
		{[]api.Node{nots(api.Tuple{}, of("X"), of("p", num(3)), api.Tuple{}, of("p", api.Value{Sym: "a", Num: 1}))}, []api.Tuple{{}, of("X"), of("p", num(3)), of("p", api.Value{Sym: "a", Num: 1})}},
	} {
		got := Leaves(one.l)
		if !slices.EqualFunc(got, one.want, func(a, b api.Tuple) bool { return value.Order(a, b) == 0 }) {
			t.Errorf("%v: %v, not %v", one.l, got, one.want)
		}
	}
	w := plainWorld(t)
	l, _ := prove.Prove(w.c, w.live, low, read(t, "ann says ok(b)"))
	if got := Leaves(l); len(got) != 1 || value.Order(got[0], of("bad", ann, sym("b"))) != 0 {
		t.Errorf("%v", got)
	}
}

func TestLeavesAreNew(t *testing.T) { // P16.3, R4
	ann, bob := sym("ann"), sym("bob")
	two := func() []api.Node {
		return []api.Node{{Nots: []api.Tuple{of("q", bob, num(1)), of("p", ann)}}, {Nots: []api.Tuple{of("q", bob, num(1))}}}
	}
	l := two()
	l[0].Nots = append(l[0].Nots, of("spare", ann))[:2]
	got := Leaves(l)
	_ = append(got[0].Args, num(9))
	got[0].Args[0], got[1].Args[1] = sym("x"), sym("y")
	if !reflect.DeepEqual(l, two()) || l[0].Nots[:3][2].Pred != "spare" {
		t.Errorf("changed: %v", l)
	}
	if got[0].Args[0].Sym != "x" || got[1].Args[0].Sym != "bob" || got[1].Args[1].Sym != "y" {
		t.Errorf("leaves share memory: %v", got)
	}
}
