package lower

import (
	"math"
	"math/rand"
	"reflect"
	"strings"
	"testing"

	"mandate/api"
	"mandate/value"
)

// said is an assertion that may be.
func said(t *testing.T, c api.Config, user, no int) api.Said {
	t.Helper()
	return api.Said{User: user, No: no, Rule: rule(t, c, user, "ok(X) :- bob says p(X), not bad(X).")}
}

func TestRight(t *testing.T) { // P9.2
	c := given(t)
	for what, change := range map[string]func(*api.Said){
		"nothing":          func(s *api.Said) {},
		"the last number":  func(s *api.Said) { s.No = api.MaxTick },
		"the second label": func(s *api.Said) { s.Label = 1 },
		"the first tick":   func(s *api.Said) { s.Till = 1 },
		"the last tick":    func(s *api.Said) { s.Till = api.MaxTick },
		"a fact":           func(s *api.Said) { s.Rule = rule(t, c, s.User, "p(a).") },
	} {
		for user := range c.Users {
			s := said(t, c, user, 1)
			change(&s)
			if !Right(c, s) {
				t.Errorf("Right of %d, with %s: false", user, what)
			}
		}
	}
}

// wrongs are changes of an assertion that may then not be.
func wrongs() map[string]func(*api.Said) {
	return map[string]func(*api.Said){
		"no number":            func(s *api.Said) { s.No = 0 },
		"a number below 0":     func(s *api.Said) { s.No = -1 },
		"the least number":     func(s *api.Said) { s.No = math.MinInt },
		"too great a number":   func(s *api.Said) { s.No = api.MaxTick + 1 },
		"the greatest number":  func(s *api.Said) { s.No = math.MaxInt },
		"a label below 0":      func(s *api.Said) { s.Label = -1 },
		"a label that is none": func(s *api.Said) { s.Label = 2 },
		"the greatest label":   func(s *api.Said) { s.Label = math.MaxInt },
		"a tick below 0":       func(s *api.Said) { s.Till = -1 },
		"too great a tick":     func(s *api.Said) { s.Till = api.MaxTick + 1 },
		"the least tick":       func(s *api.Said) { s.Till = math.MinInt64 },
		"the greatest tick":    func(s *api.Said) { s.Till = math.MaxInt64 },
		"another user":         func(s *api.Said) { s.User = 1 - s.User },
		"a user below 0":       func(s *api.Said) { s.User = -1 },
		"a user that is none":  func(s *api.Said) { s.User = 2 },
		"the least user":       func(s *api.Said) { s.User = math.MinInt },
		"no rule":              func(s *api.Said) { s.Rule = api.Rule{} },
		"a rule without body":  func(s *api.Said) { s.Rule.Body = nil },
	}
}

func TestRightOfWhatMayNotBe(t *testing.T) { // P9.2
	c, bad := given(t), given(t)
	bad.Up[0] = 1 << 2
	for what, change := range wrongs() {
		for user := range c.Users {
			s := said(t, c, user, 1)
			change(&s)
			if Right(c, s) || Live(c, []api.Said{s}) {
				t.Errorf("Right of %d, with %s: true", user, what)
			}
		}
	}
	for _, c := range []api.Config{bad, {}} {
		if Right(c, said(t, given(t), 0, 1)) || Right(c, api.Said{}) {
			t.Errorf("Right of %v: true", c)
		}
	}
	one := given(t)
	one.Labels, one.Up, one.Users[1].Label = one.Labels[:1], []uint64{1}, 0
	s := said(t, given(t), 1, 1)
	if !Right(one, s) {
		t.Error("Right of one label: false")
	}
	if s.Label = 1; Right(one, s) {
		t.Error("Right of another label than the one: true")
	}
}

func TestLive(t *testing.T) { // P9.2
	c := given(t)
	for what, numbers := range map[string][][2]int{
		"nothing":      nil,
		"one":          {{1, 7}},
		"two":          {{0, 1}, {0, 2}},
		"both users":   {{0, 9}, {1, 1}},
		"many":         {{0, 1}, {0, 5}, {0, api.MaxTick}, {1, 1}, {1, 2}, {1, 7}},
		"one of each":  {{0, 1}, {1, 1}},
		"a far number": {{0, api.MaxTick}, {1, api.MaxTick}},
	} {
		if l := list(t, c, numbers); !Live(c, l) || !Live(c, append([]api.Said{}, l...)) {
			t.Errorf("Live of %s: false", what)
		}
	}
	for what, numbers := range map[string][][2]int{
		"the same twice":      {{0, 1}, {0, 1}},
		"falling numbers":     {{0, 2}, {0, 1}},
		"falling users":       {{1, 1}, {0, 2}},
		"the same at the end": {{0, 1}, {0, 2}, {1, 3}, {1, 3}},
		"falling at the end":  {{0, 1}, {0, 2}, {1, 1}, {0, 3}},
		"falling in between":  {{0, 1}, {0, 3}, {0, 2}, {0, 4}},
		"the users mixed":     {{0, 1}, {1, 2}, {0, 3}},
	} {
		if Live(c, list(t, c, numbers)) {
			t.Errorf("Live of %s: true", what)
		}
	}
}

// list is of assertions of users and numbers.
func list(t *testing.T, c api.Config, numbers [][2]int) []api.Said {
	t.Helper()
	var l []api.Said
	for _, n := range numbers {
		l = append(l, said(t, c, n[0], n[1]))
	}
	return l
}

func TestLiveOfWhatMayNotBe(t *testing.T) { // P9.2
	c, bad := given(t), given(t)
	bad.Preds[0].Stratum = api.MaxStrata
	for _, c := range []api.Config{bad, {}} {
		if Live(c, nil) || Live(c, []api.Said{}) || Live(c, []api.Said{said(t, given(t), 0, 1)}) {
			t.Errorf("Live of %v: true", c)
		}
	}
	for what, change := range wrongs() {
		for at := range 3 {
			l := list(t, c, [][2]int{{0, 1}, {0, 5}, {1, 7}})
			if change(&l[at]); Live(c, l) {
				t.Errorf("Live of one with %s at %d: true", what, at)
			}
		}
	}
}

func TestLiveOfMany(t *testing.T) { // P9.2
	c := given(t)
	var l []api.Said
	for i := range api.MaxLive {
		l = append(l, said(t, c, i/300, 1+i))
	}
	if !Live(c, l) {
		t.Errorf("Live of %d: false", len(l))
	}
	if l = append(l, said(t, c, 1, 1+len(l))); Live(c, l) || !Live(c, l[1:]) {
		t.Errorf("Live of %d, or of all but the first: wrong", len(l))
	}
}

// atom is a tuple of a predicate and values that are spelt.
func atom(pred string, values ...string) api.Tuple {
	x := api.Tuple{Pred: pred}
	for _, s := range values {
		v, ok := value.Read(s)
		if !ok {
			v.Sym = s
		}
		x.Args = append(x.Args, v)
	}
	return x
}

func TestText(t *testing.T) { // P9.3
	for want, x := range map[string]api.Tuple{
		"bob says p(1)":                           atom("p", "bob", "1"),
		"ann says none":                           atom("none", "ann"),
		"a says a(a)":                             atom("a", "a", "a"),
		"ann says four(a, -7, 0, bob)":            atom("four", "ann", "a", "-7", "0", "bob"),
		"dan says x_9(9223372036854775807, n_0)":  atom("x_9", "dan", "9223372036854775807", "n_0"),
		"abcdefghijklmnop says abcdefghijklmnop":  atom("abcdefghijklmnop", "abcdefghijklmnop"),
		"nots says say(-9223372036854775808, no)": atom("say", "nots", "-9223372036854775808", "no"),
		"ann says p(ann, ann)":                    atom("p", "ann", "ann", "ann"),
		"ann says p(bob, 0, ann)":                 atom("p", "ann", "bob", "0", "ann"),
	} {
		if s, ok := Text(x); !ok || s != want {
			t.Errorf("Text(%v): %q, %v", x, s, ok)
		}
		if got, ok := Read(want); !ok || value.Order(got, x) != 0 {
			t.Errorf("Read(%q): %v, %v", want, got, ok)
		}
	}
}

func TestTextOfWhatMayNotBe(t *testing.T) { // P9.3
	long := strings.Repeat("a", api.MaxName+1)
	two := atom("p", "ann", "a")
	two.Args[1].Num = 1
	for _, x := range []api.Tuple{
		{}, {Pred: "p"}, atom("p", "7"), atom("p", "0", "a"), atom("p", ""), atom("p", "X", "a"), atom("p", "not"), atom("p", long),
		atom("", "ann"), atom("says", "ann"), atom("P", "ann", "a"), atom(long, "ann"), atom("7", "ann"),
		atom("p", "ann", "X"), atom("p", "ann", "a", "not"), atom("p", "ann", long), two,
		atom("p", "ann", "a", "b", "c", "d", "e"),
	} {
		if s, ok := Text(x); ok || s != "" {
			t.Errorf("Text(%v): %q, %v", x, s, ok)
		}
	}
}

func TestReadOfBlanks(t *testing.T) { // P9.3: a text is a literal by layer 6, whatever blanks it has
	for _, s := range []string{"ann says p(a, 7)", "ann says p(a,7)", " ann\tsays  p ( a , 7 ) ", "ann says p( a,\t7)"} {
		if x, ok := Read(s); !ok || value.Order(x, atom("p", "ann", "a", "7")) != 0 {
			t.Errorf("Read(%q): %v, %v", s, x, ok)
		}
	}
}

func TestReadNone(t *testing.T) { // P9.3
	for _, s := range []string{
		"", " ", "p", "p(a)", "none", "X says p(a)", "X says p", "ann says p(X)", "ann says p(a, X)", "ann says p(a, b, c, X)", "X says p(X)",
		"not ann says p(a)", "ann says not p(a)", "7 says p(a)", "0 says p", "says p", "ann says", "ann says says p", "not says p", "ann says X", "Ann says p(a)",
		"ann says p(a).", "ann says p(a),", "ann says p(a) p", "ann says p()", "ann says p(a", "ann says p(a,)", "ann says p(not)", "ann says p(a, b, c, d, e)",
		"ann says bob says p(a)", "ann saysp(a)", "annsays p(a)", "ann says p(007)", "ann says p(-0)", "ann says p(9223372036854775808)", "ann says p(+1)",
		"ann says p(é)", "ann says p(a)\n", "ann says p\x00", "1 < 2", "a != b", "ann says p :- q", "ann < bob", "abcdefghijklmnopq says p",
		"ann says p(a)" + strings.Repeat(" ", api.MaxText),
	} {
		if x, ok := Read(s); ok || !reflect.DeepEqual(x, api.Tuple{}) {
			t.Errorf("Read(%q): %v, %v", s, x, ok)
		}
	}
	full := "ann says p(a)" + strings.Repeat(" ", api.MaxText-13)
	if _, ok := Read(full); !ok {
		t.Error("Read of as many bytes as may be: false")
	}
}

func TestManyTexts(t *testing.T) { // P9.3
	names := []string{"a", "ann", "p", "x_1", "nott", "says1"}
	values := append([]string{"0", "-1", "12", "-9223372036854775808"}, names...)
	chance := rand.New(rand.NewSource(9))
	for range 3000 {
		spelt := []string{names[chance.Intn(len(names))]}
		for range chance.Intn(api.MaxArity + 1) {
			spelt = append(spelt, values[chance.Intn(len(values))])
		}
		x := atom(names[chance.Intn(len(names))], spelt...)
		want := spelt[0] + " says " + x.Pred
		if len(spelt) > 1 {
			want += "(" + strings.Join(spelt[1:], ", ") + ")"
		}
		s, ok := Text(x)
		back, is := Read(s)
		if !ok || s != want || !is || value.Order(back, x) != 0 {
			t.Fatalf("Text(%v): %q, %v; Read: %v, %v", x, s, ok, back, is)
		}
	}
}

// room hands out a list with a term behind its end.
func room(l []api.Term) []api.Term {
	return append(append([]api.Term{}, l...), api.Term{Var: "Z"})[:len(l)]
}

func TestNothingIsChangedOrShared(t *testing.T) { // R4
	c := given(t)
	cl, l := read(t, "ok(X) :- bob says p(X), not p(X), X < 3."), readLit(t, "bob says p(Y)")
	cl.Head.Args, l.Args = room(cl.Head.Args), room(l.Args)
	for i := range cl.Body {
		cl.Body[i].Args = room(cl.Body[i].Args)
	}
	first, _ := Rule(c, 0, cl)
	f, _ := Pattern(c, 0, l)
	raised, _ := Raise(c, 0, first)
	kept := toldRule(first)
	for _, args := range [][]api.Term{raised.Head.Args, raised.Body[0].Args, raised.Body[1].Args, raised.Body[2].Args} {
		args[0] = api.Term{Var: "W"}
		_ = append(args, api.Term{Var: "V"})
	}
	raised.Body[0] = api.Lit{}
	if toldRule(first) != kept {
		t.Errorf("a rule that was raised: %s", toldRule(first))
	}
	for _, args := range [][]api.Term{f.Args, first.Head.Args, first.Body[0].Args, first.Body[1].Args, first.Body[2].Args} {
		args[0], args[1] = api.Term{Var: "W"}, api.Term{Var: "W"}
		_ = append(args, api.Term{Var: "V"})
	}
	first.Body[0] = api.Flat{}
	if want := read(t, "ok(X) :- bob says p(X), not p(X), X < 3."); !reflect.DeepEqual(cl, want) || !reflect.DeepEqual(l, readLit(t, "bob says p(Y)")) || !reflect.DeepEqual(c, given(t)) {
		t.Errorf("changed: %v, %v, %v", cl, l, c)
	}
	for _, args := range [][]api.Term{l.Args, cl.Head.Args, cl.Body[0].Args, cl.Body[1].Args, cl.Body[2].Args} {
		if behind := args[:len(args)+1]; behind[len(args)].Var != "Z" {
			t.Errorf("changed behind an end: %v", behind)
		}
	}
	if second, _ := Rule(c, 0, cl); toldRule(second) != kept {
		t.Errorf("the second answer: %s", toldRule(second))
	}
}

func TestTuplesAreTheirOwn(t *testing.T) { // R4
	x := atom("p", "ann", "a", "7")
	Text(x)
	first, _ := Read("ann says p(a, 7)")
	first.Args[0].Sym = "bob"
	second, _ := Read("ann says p(a, 7)")
	if value.Order(x, second) != 0 {
		t.Errorf("changed: %v, %v", x, second)
	}
}
