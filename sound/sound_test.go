package sound

import (
	"errors"
	"math"
	"math/rand"
	"reflect"
	"slices"
	"strconv"
	"strings"
	"testing"

	"mandate/api"
	"mandate/clause"
	"mandate/config"
)

// given is a configuration of two users, with the predicates that the examples name, and of each stratum s a predicate ps.
func given(t *testing.T) api.Config {
	t.Helper()
	text := "label low\nlabel high\nabove high low\nuser ann low\nuser bob high\n" +
		"pred p 1 0\npred ok 1 1\npred none 0 0\npred four 4 0\npred q 1 0\npred top 1 7\n"
	for s := range api.MaxStrata {
		text += "pred p" + strconv.Itoa(s) + " 0 " + strconv.Itoa(s) + "\n"
	}
	c, line, e := config.Parse(text + "bound 9\npurse 3 100")
	if e != api.OK {
		t.Fatalf("config.Parse: %d at %d", e, line)
	}
	return c
}

func read(t *testing.T, text string) api.Clause {
	t.Helper()
	cl, at, e := clause.Parse(text)
	if e != api.OK {
		t.Fatalf("clause.Parse(%q): %d at %d", text, e, at)
	}
	return cl
}

func readLit(t *testing.T, text string) api.Lit {
	t.Helper()
	l, at, e := clause.ParseLit(text)
	if e != api.OK {
		t.Fatalf("clause.ParseLit(%q): %d at %d", text, e, at)
	}
	return l
}

// checked looks what is answered of a clause, whoever would assert it.
func checked(t *testing.T, text string, want api.Errno) {
	t.Helper()
	c, cl := given(t), read(t, text)
	for user := range c.Users {
		if e := Check(c, user, cl); e != want {
			t.Errorf("Check of %d, %q: %d, not %d", user, text, e, want)
		}
	}
}

// asked looks what is answered of a literal.
func asked(t *testing.T, text string, want api.Errno) {
	t.Helper()
	if e := Ask(given(t), readLit(t, text)); e != want {
		t.Errorf("Ask(%q): %d, not %d", text, e, want)
	}
}

func TestCheck(t *testing.T) { // P8.1
	for _, text := range []string{
		"p(a).", "p(-7).", "none.", "four(a, 1, a, ann).", "top(a).",
		"ok(X) :- p(X), not p(X).", "ok(X) :- p(X), not bob says p(X).", "ok(X) :- bob says p(X).", "ok(X) :- ann says p(X).",
		"ok(X) :- X says p(a).", "ok(X) :- X says p(X), not X says p(X).", "p(a) :- W says none.", "ok(a) :- not p(a).",
		"p(X) :- q(X), X < 3.", "p(X) :- X != a, 7 < X, Y != X, q(X), Y says none.", "p(a) :- 1 < 2, a != b.",
		"p(X) :- p(X).", "p(X) :- four(Y, X, Y, Z), Z says p(X).", "ok(X) :- not p(X), p(X).", "top(X) :- ok(X), not ok(X), top(X).",
		"p(ann) :- q(dan).", "p(dan).", "p(a) :- none, none, none, none, none, none.",
	} {
		checked(t, text, api.OK)
	}
}

func TestCheckOfPredicates(t *testing.T) { // P8.1
	for text, want := range map[string]api.Errno{
		"x(a).":                            api.ErrPred,
		"x.":                               api.ErrPred,
		"ann(a).":                          api.ErrPred,
		"low.":                             api.ErrPred,
		"p(a) :- x.":                       api.ErrPred,
		"p(a) :- not x.":                   api.ErrPred,
		"p(a) :- q(a), X says x.":          api.ErrPred,
		"p(a, b).":                         api.ErrArity,
		"p.":                               api.ErrArity,
		"none(a).":                         api.ErrArity,
		"four(a, b, c).":                   api.ErrArity,
		"p(a) :- q.":                       api.ErrArity,
		"ok(a) :- not q(a, a).":            api.ErrArity,
		"p(a) :- ann says q.":              api.ErrArity,
		"p(a) :- none, none, ann says q.":  api.ErrArity,
		"p(X) :- q(X), q(X, ann).":         api.ErrArity,
		"p(a) :- dan says q(a).":           api.ErrSpeaker,
		"ok(a) :- not dan says q(a).":      api.ErrSpeaker,
		"p(X) :- X says q(X), p says q(X)": api.ErrSpeaker,
		"p(a) :- low says none":            api.ErrSpeaker,
	} {
		checked(t, strings.TrimSuffix(text, ".")+".", want)
	}
}

func TestCheckOfStrata(t *testing.T) { // P8.1
	for head := range api.MaxStrata {
		for body := range api.MaxStrata {
			h, b := "p"+strconv.Itoa(head), "p"+strconv.Itoa(body)
			pos, not := api.OK, api.OK
			if body > head {
				pos = api.ErrStratum
			}
			if body >= head {
				not = api.ErrStratum
			}
			checked(t, h+" :- "+b+".", pos)
			checked(t, h+" :- not "+b+".", not)
			checked(t, h+" :- X says "+b+".", pos)
			checked(t, h+" :- not bob says "+b+".", not)
			checked(t, h+" :- p0, "+b+", "+h+".", pos)
			checked(t, h+" :- "+h+", 1 < 2, not "+b+".", not)
		}
	}
	checked(t, "p(X) :- not p(X).", api.ErrStratum)
	checked(t, "p(X) :- not q(X).", api.ErrStratum)
	checked(t, "p(X) :- ok(X).", api.ErrStratum)
}

func TestCheckOfVariables(t *testing.T) { // P8.1
	for _, text := range []string{
		"p(X).", "four(a, b, c, X).", "ok(X) :- not p(X).", "ok(X) :- p(Y).", "ok(X) :- p(Y), X < Y.", "ok(X) :- p(Y), Y != X.", "ok(X) :- X != a.", "ok(X) :- X < X.",
		"ok(a) :- not p(X).", "ok(a) :- not X says p(a).", "ok(a) :- X < 3.", "ok(a) :- 3 < X.", "ok(a) :- X != 3.", "ok(a) :- a != X.",
		"ok(a) :- p(X), not Y says p(X).", "ok(a) :- p(X), not X says p(Y).", "ok(X) :- Y says p(Y), not X says p(Y).", "ok(X) :- p(a), not p(X), not X says p(X), X < X.",
		"ok(X) :- p(Xx), p(Xy), p(XX).",
	} {
		checked(t, text, api.ErrRange)
	}
}

func TestCheckOfTheFirstFault(t *testing.T) { // P8.1
	for text, want := range map[string]api.Errno{
		"x(X) :- p, dan says p(a), not x.":          api.ErrPred,
		"p(X, Y) :- x, dan says p(a), not p(a).":    api.ErrArity,
		"p(X) :- p, x, dan says p(a), not p(a).":    api.ErrArity,
		"p(X) :- dan says p(a), x, p, not p(a).":    api.ErrSpeaker,
		"p(X) :- not p(a), x, p, dan says p(a).":    api.ErrStratum,
		"p(X) :- X < Y, Z != 1, x, p, not p(a).":    api.ErrPred,
		"p(X) :- not p(Y), not p(Z).":               api.ErrStratum,
		"p(X) :- not p(Y), p.":                      api.ErrStratum,
		"p(X) :- dan says x.":                       api.ErrPred,
		"p(X) :- dan says top.":                     api.ErrArity,
		"p(X) :- dan says top(a, b).":               api.ErrArity,
		"p(X) :- not dan says x(a).":                api.ErrPred,
		"p(X) :- dan says top(Y).":                  api.ErrSpeaker,
		"p(X) :- not dan says p(X).":                api.ErrSpeaker,
		"p(X) :- top(Y).":                           api.ErrStratum,
		"p(X) :- none, none, none, none, none, p1.": api.ErrStratum,
		"p(X) :- none, none, none, none, none, x.":  api.ErrPred,
	} {
		checked(t, text, want)
	}
}

func TestCheckOfWhatMayNotBe(t *testing.T) { // P8.1
	good, cl := given(t), read(t, "p(a).")
	bad := given(t)
	bad.Bound = 0
	for _, user := range []int{-1, 2, math.MinInt, math.MaxInt} {
		if e := Check(good, user, cl); e != api.ErrArg {
			t.Errorf("Check of the user %d: %d", user, e)
		}
	}
	for _, c := range []api.Config{bad, {}} {
		for _, text := range []string{"p(a).", "x(X) :- not dan says p."} {
			if e := Check(c, 0, read(t, text)); e != api.ErrArg {
				t.Errorf("Check of %v, %q: %d", c, text, e)
			}
		}
	}
	if e := Check(good, 1, api.Clause{}); e != api.ErrArg {
		t.Errorf("Check of no clause: %d", e)
	}
	if e := Check(good, 2, read(t, "x(X) :- not dan says p.")); e != api.ErrArg {
		t.Errorf("Check of no user: %d", e)
	}
	none := good
	none.Users = nil
	if e := Check(none, 0, cl); e != api.ErrArg {
		t.Errorf("Check without users: %d", e)
	}
	for what, change := range changes() {
		cl := read(t, "ok(X) :- bob says p(X), not p(X), X < 3.")
		change(&cl)
		if e := Check(good, 0, cl); e != api.ErrArg {
			t.Errorf("Check of %s: %d", what, e)
		}
		if l := Free(cl); len(l) != 0 {
			t.Errorf("Free of %s: %v", what, l)
		}
	}
}

// changes are such of ok(X) :- bob says p(X), not p(X), X < 3. that it may not be.
func changes() map[string]func(*api.Clause) {
	return map[string]func(*api.Clause){
		"a head of another kind":   func(cl *api.Clause) { cl.Head.Kind = api.LNot },
		"a head of no kind":        func(cl *api.Clause) { cl.Head.Kind = 0 },
		"a head with a speaker":    func(cl *api.Clause) { cl.Head.Who.Val.Sym = "ann" },
		"a head of another one":    func(cl *api.Clause) { cl.Head.Who.Var = "X" },
		"a head without a name":    func(cl *api.Clause) { cl.Head.Pred = "" },
		"a name that is none":      func(cl *api.Clause) { cl.Body[0].Pred = "P" },
		"too many arguments":       func(cl *api.Clause) { cl.Head.Args = slices.Repeat(cl.Head.Args, 5) },
		"too many literals":        func(cl *api.Clause) { cl.Body = slices.Repeat(cl.Body, 3) },
		"a kind of none":           func(cl *api.Clause) { cl.Body[1].Kind = 5 },
		"a number as a speaker":    func(cl *api.Clause) { cl.Body[0].Who.Val = api.Value{Num: 7} },
		"a variable that is none":  func(cl *api.Clause) { cl.Body[0].Args[0].Var = "x" },
		"a variable with a value":  func(cl *api.Clause) { cl.Body[0].Args[0].Val.Num = 7 },
		"a symbol with a number":   func(cl *api.Clause) { cl.Body[0].Who.Val.Num = 7 },
		"three that are compared":  func(cl *api.Clause) { cl.Body[2].Args = append(cl.Body[2].Args, api.Term{}) },
		"one compared with none":   func(cl *api.Clause) { cl.Body[2].Args = cl.Body[2].Args[:1] },
		"< with a name":            func(cl *api.Clause) { cl.Body[2].Pred = "p" },
		"< with a speaker":         func(cl *api.Clause) { cl.Body[2].Who.Val.Sym = "ann" },
		"an atom without its name": func(cl *api.Clause) { cl.Body[1].Pred = "" },
	}
}

func TestAsk(t *testing.T) { // P8.2
	for text, want := range map[string]api.Errno{
		"p(a)":             api.OK,
		"p(X)":             api.OK,
		"X says p(Y)":      api.OK,
		"bob says p(a)":    api.OK,
		"ann says none":    api.OK,
		"top(X)":           api.OK,
		"four(X, X, 1, a)": api.OK,
		"x":                api.ErrPred,
		"x(a, b)":          api.ErrPred,
		"dan says x(a)":    api.ErrPred,
		"p":                api.ErrArity,
		"p(a, X)":          api.ErrArity,
		"none(X)":          api.ErrArity,
		"dan says p":       api.ErrArity,
		"X says p":         api.ErrArity,
		"dan says p(a)":    api.ErrSpeaker,
		"dan says p(X)":    api.ErrSpeaker,
		"high says none":   api.ErrSpeaker,
		"p says p(X)":      api.ErrSpeaker,
	} {
		asked(t, text, want)
	}
}

func TestAskOfWhatMayNotBe(t *testing.T) { // P8.2
	good := given(t)
	bad := given(t)
	bad.Up = nil
	for _, c := range []api.Config{bad, {}} {
		for _, text := range []string{"p(a)", "x", "p", "dan says p(a)"} {
			if e := Ask(c, readLit(t, text)); e != api.ErrArg {
				t.Errorf("Ask of %v, %q: %d", c, text, e)
			}
		}
	}
	for what, change := range map[string]func(*api.Lit){
		"another kind":          func(l *api.Lit) { l.Kind = api.LNot },
		"no kind":               func(l *api.Lit) { l.Kind = 0 },
		"no name":               func(l *api.Lit) { l.Pred = "" },
		"a name that is none":   func(l *api.Lit) { l.Pred = "says" },
		"too many arguments":    func(l *api.Lit) { l.Args = slices.Repeat(l.Args, 5) },
		"a number as a speaker": func(l *api.Lit) { l.Who.Val = api.Value{Num: 1} },
		"two as a speaker":      func(l *api.Lit) { l.Who.Var = "X" },
		"a value that is none":  func(l *api.Lit) { l.Args[0].Val.Num = 1 },
	} {
		l := readLit(t, "bob says p(a)")
		change(&l)
		if e := Ask(good, l); e != api.ErrArg {
			t.Errorf("Ask of %s: %d", what, e)
		}
	}
	less := read(t, "p(a) :- 1 < 2.").Body[0]
	if e := Ask(good, less); e != api.ErrArg {
		t.Errorf("Ask of <: %d", e)
	}
	// Without users a literal may be asked for all the same, but by the word of nobody who is named.
	good.Users = nil
	if a, b := Ask(good, readLit(t, "X says p(a)")), Ask(good, readLit(t, "bob says p(a)")); a != api.OK || b != api.ErrSpeaker {
		t.Errorf("Ask without users: %d, %d", a, b)
	}
}

func TestFree(t *testing.T) { // P8.3
	for text, want := range map[string]string{
		"p(X) :- q(Y), Z < Y.":    "X Z",
		"p.":                      "",
		"p(a, 7).":                "",
		"p(X).":                   "X",
		"p(Y, X, Y).":             "Y X",
		"p(X, Y) :- q(Y).":        "X",
		"p(X, Y) :- Y says q(X).": "",
		"p(X, Y) :- Y says q, not Z says q(W, X).":       "X Z W",
		"p(X) :- not X says q(X).":                       "X",
		"p(X) :- not X says q(Z, Y), X < W, V != Z.":     "X Z Y W V",
		"p(X) :- not Y says q(Z), Z says q(X).":          "Y",
		"p :- X < Y, Y != X, r(Y).":                      "X",
		"p :- X says q(Y), Y says q(Z), not q(X, Y, Z).": "",
		"p(Xx, X) :- q(x, XX, Xy).":                      "Xx X",
		"p(B, A) :- not q(D, C), not q(C, E), q(E).":     "B A D C",
	} {
		if got := strings.Join(Free(read(t, text)), " "); got != want {
			t.Errorf("Free(%q): %s, not %s", text, got, want)
		}
	}
	if l := Free(api.Clause{}); len(l) != 0 {
		t.Errorf("Free of no clause: %v", l)
	}
}

// part is a literal of a body, what is wrong with it below a head of the stratum 1, which variables it binds, and which it has.
type part struct {
	text       string
	fault      api.Errno
	binds, has string
}

func parts() []part {
	return []part{
		{"p(X)", api.OK, "X", "X"},
		{"bob says ok(Y)", api.OK, "Y", "Y"},
		{"Y says four(a, X, 7, Z)", api.OK, "YXZ", "YXZ"},
		{"none", api.OK, "", ""},
		{"not p(X)", api.OK, "", "X"},
		{"not Y says none", api.OK, "", "Y"},
		{"not bob says p(Z)", api.OK, "", "Z"},
		{"X < Y", api.OK, "", "XY"},
		{"7 != Z", api.OK, "", "Z"},
		{"x(X)", api.ErrPred, "X", "X"},
		{"not dan says x", api.ErrPred, "", ""},
		{"p(X, Y)", api.ErrArity, "XY", "XY"},
		{"not dan says top", api.ErrArity, "", ""},
		{"dan says p(X)", api.ErrSpeaker, "X", "X"},
		{"not dan says ok(X)", api.ErrSpeaker, "", "X"},
		{"p2", api.ErrStratum, "", ""},
		{"X says top(Y)", api.ErrStratum, "XY", "XY"},
		{"not Z says ok(a)", api.ErrStratum, "", "Z"},
	}
}

// foretold is what Check and Free answer of a head's variables and a body of parts.
func foretold(head string, body []part) (api.Errno, []string) {
	bound, has := "", head
	fault := api.OK
	for _, p := range body {
		bound, has = bound+p.binds, has+p.has
		if fault == api.OK {
			fault = p.fault
		}
	}
	var free []string
	for _, v := range has {
		if s := string(v); !strings.Contains(bound, s) && !slices.Contains(free, s) {
			free = append(free, s)
		}
	}
	if fault == api.OK && len(free) > 0 {
		fault = api.ErrRange
	}
	return fault, free
}

// composed holds what is answered of a clause of parts against what was foretold.
func composed(t *testing.T, c api.Config, vars string, body []part) {
	t.Helper()
	head := map[string]string{"": "p1", "X": "ok(X)"}[vars]
	var texts []string
	for _, p := range body {
		texts = append(texts, p.text)
	}
	if len(body) > 0 {
		head += " :- " + strings.Join(texts, ", ")
	}
	cl := read(t, head+".")
	want, free := foretold(vars, body)
	if e := Check(c, 0, cl); e != want {
		t.Fatalf("Check(%q): %d, not %d", head, e, want)
	}
	if l := Free(cl); !slices.Equal(l, free) {
		t.Fatalf("Free(%q): %v, not %v", head, l, free)
	}
}

func TestManyClauses(t *testing.T) { // P8.1, P8.3
	c, all := given(t), parts()
	for _, vars := range []string{"", "X"} {
		composed(t, c, vars, nil)
		for _, first := range all {
			composed(t, c, vars, []part{first})
			for _, second := range all {
				composed(t, c, vars, []part{first, second})
				for _, third := range all {
					composed(t, c, vars, []part{first, second, third})
				}
			}
		}
	}
	r := rand.New(rand.NewSource(9))
	for range 5000 {
		var body []part
		for range 1 + r.Intn(api.MaxBody) {
			body = append(body, all[r.Intn(len(all)-r.Intn(2)*9)])
		}
		composed(t, c, "X", body)
	}
}

func TestNothingIsChanged(t *testing.T) { // R4
	c, cl := given(t), read(t, "ok(X) :- bob says p(Y), not p(Z), X < 3.")
	l := readLit(t, "bob says p(Y)")
	Check(c, 0, cl)
	Ask(c, l)
	first, second := Free(cl), Free(cl)
	first[0] = "W"
	_ = append(first, "W")
	if !reflect.DeepEqual(second, []string{"X", "Z"}) {
		t.Errorf("the second answer: %v", second)
	}
	if !reflect.DeepEqual(c, given(t)) || !reflect.DeepEqual(cl, read(t, "ok(X) :- bob says p(Y), not p(Z), X < 3.")) || !reflect.DeepEqual(l, readLit(t, "bob says p(Y)")) {
		t.Errorf("changed: %v, %v, %v", c, cl, l)
	}
}

// around is an error with another one in it.
type around struct{ error }

func (a around) Unwrap() error { return a.error }

func TestNumber(t *testing.T) { // the way that P8.1 and P8.2 tell what is wrong
	f := fault{api.ErrArity}
	for _, err := range []error{f, around{f}, around{around{f}}} {
		if n := number(err); n != api.ErrArity || err.Error() != "error 11" {
			t.Errorf("number of %v: %d", err, n)
		}
	}
	for _, err := range []error{nil, errors.New("another one")} {
		if n := number(err); n != api.OK {
			t.Errorf("number of %v: %d", err, n)
		}
	}
}
