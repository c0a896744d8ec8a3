package lower

import (
	"math"
	"math/rand"
	"reflect"
	"slices"
	"strconv"
	"strings"
	"testing"

	"mandate/api"
	"mandate/clause"
	"mandate/config"
	"mandate/sound"
	"mandate/value"
)

// given is a configuration of two users, with the predicates that the examples name.
func given(t *testing.T) api.Config {
	t.Helper()
	c, line, e := config.Parse("label low\nlabel high\nabove high low\nuser ann low\nuser bob high\n" +
		"pred p 1 0\npred bad 1 0\npred none 0 0\npred four 4 0\npred ok 1 1\nbound 9\npurse 3 100")
	if e != api.OK {
		t.Fatalf("config.Parse: %d at %d", e, line)
	}
	return c
}

func read(t *testing.T, text string) api.Clause {
	t.Helper()
	cl, at, e := clause.Parse(text)
	if e != api.OK {
		t.Fatalf("clause.Parse(%q): %d at %d", text, e, at)
	}
	return cl
}

func readLit(t *testing.T, text string) api.Lit {
	t.Helper()
	l, at, e := clause.ParseLit(text)
	if e != api.OK {
		t.Fatalf("clause.ParseLit(%q): %d at %d", text, e, at)
	}
	return l
}

func rule(t *testing.T, c api.Config, user int, text string) api.Rule {
	t.Helper()
	r, e := Rule(c, user, read(t, text))
	if e != api.OK {
		t.Fatalf("Rule of %d, %q: %d", user, text, e)
	}
	return r
}

// told writes a flat literal with all that is in it.
func told(f api.Flat) string {
	var args []string
	for _, x := range f.Args {
		args = append(args, x.Var+"|"+x.Val.Sym+"|"+strconv.FormatInt(x.Val.Num, 10))
	}
	return strconv.Itoa(int(f.Kind)) + " " + f.Pred + "(" + strings.Join(args, ", ") + ")"
}

// toldRule writes a rule with all that is in it.
func toldRule(r api.Rule) string {
	text := told(r.Head) + " :-"
	for _, f := range r.Body {
		text += " " + told(f)
	}
	return text
}

// flat is a literal of a kind, a predicate, and terms that are spelt as in a clause.
func flat(kind uint8, pred string, terms ...string) api.Flat {
	f := api.Flat{Kind: kind, Pred: pred}
	for _, s := range terms {
		if v, ok := value.Read(s); ok {
			f.Args = append(f.Args, api.Term{Val: v})
		} else {
			f.Args = append(f.Args, api.Term{Var: s})
		}
	}
	return f
}

func TestRule(t *testing.T) { // P9.1
	c := given(t)
	users := []string{"ann", "bob"}
	for user, me := range users {
		for text, want := range map[string]api.Rule{
			"p(a).":                {Head: flat(api.LPos, "p", me, "a")},
			"none.":                {Head: flat(api.LPos, "none", me)},
			"four(a, -7, 0, ann).": {Head: flat(api.LPos, "four", me, "a", "-7", "0", "ann")},
			"ok(X) :- bob says p(X), not bad(X).": {
				Head: flat(api.LPos, "ok", me, "X"),
				Body: []api.Flat{flat(api.LPos, "p", "bob", "X"), flat(api.LNot, "bad", me, "X")},
			},
			"ok(a) :- W says none, not ann says p(W), not none, not W says bad(0).": {
				Head: flat(api.LPos, "ok", me, "a"),
				Body: []api.Flat{flat(api.LPos, "none", "W"), flat(api.LNot, "p", "ann", "W"), flat(api.LNot, "none", me), flat(api.LNot, "bad", "W", "0")},
			},
			"p(X) :- four(X, Y, X, 3), X < Y, 3 != X, a < 0, p(X).": {
				Head: flat(api.LPos, "p", me, "X"),
				Body: []api.Flat{flat(api.LPos, "four", me, "X", "Y", "X", "3"), flat(api.LLess, "", "X", "Y"), flat(api.LUnlike, "", "3", "X"), flat(api.LLess, "", "a", "0"), flat(api.LPos, "p", me, "X")},
			},
		} {
			if r, e := Rule(c, user, read(t, text)); e != api.OK || toldRule(r) != toldRule(want) {
				t.Errorf("Rule of %s, %q: %s, %d", me, text, toldRule(r), e)
			}
		}
	}
}

func TestRuleOfWhatIsNotSound(t *testing.T) { // P9.1
	c := given(t)
	refused := func(c api.Config, user int, cl api.Clause, want api.Errno) {
		t.Helper()
		if r, e := Rule(c, user, cl); e != want || !reflect.DeepEqual(r, api.Rule{}) {
			t.Errorf("Rule of %d, %v: %s, %d", user, cl, toldRule(r), e)
		}
	}
	for text, want := range map[string]api.Errno{
		"x(a).":                   api.ErrPred,
		"p(X) :- not x.":          api.ErrPred,
		"p(a, b).":                api.ErrArity,
		"p(a) :- none(a).":        api.ErrArity,
		"ok(a) :- dan says none.": api.ErrSpeaker,
		"p(a) :- not p(a).":       api.ErrStratum,
		"p(a) :- ok(a).":          api.ErrStratum,
		"p(X).":                   api.ErrRange,
		"ok(a) :- not p(X).":      api.ErrRange,
	} {
		refused(c, 0, read(t, text), want)
		refused(c, 1, read(t, text), want)
		refused(c, 2, read(t, text), api.ErrArg)
		refused(api.Config{}, 0, read(t, text), api.ErrArg)
	}
	for _, user := range []int{-1, 2, math.MinInt, math.MaxInt} {
		refused(c, user, read(t, "p(a)."), api.ErrArg)
	}
	bad := given(t)
	bad.Bound = 0
	refused(bad, 0, read(t, "p(a)."), api.ErrArg)
	refused(c, 0, api.Clause{}, api.ErrArg)
	spoken := read(t, "p(a).")
	spoken.Head.Who.Val.Sym = "ann"
	refused(c, 0, spoken, api.ErrArg)
}

func TestRaise(t *testing.T) { // P9.1
	c := given(t)
	for text, want := range map[string][2]string{
		"p(a).":                               {"p(a).", "p(a)."},
		"none.":                               {"none.", "none."},
		"four(0, ann, bob, -1).":              {"four(0, ann, bob, -1).", "four(0, ann, bob, -1)."},
		"p(ann) :- p(bob).":                   {"p(ann) :- p(bob).", "p(ann) :- p(bob)."},
		"ok(X) :- bob says p(X), not bad(X).": {"ok(X) :- bob says p(X), not bad(X).", "ok(X) :- p(X), not bad(X)."},
		"ok(X) :- ann says p(X), not bob says bad(X).": {"ok(X) :- p(X), not bob says bad(X).", "ok(X) :- ann says p(X), not bad(X)."},
		"ok(a) :- W says none, not W says none, ann != bob, W < bob, ann says none, bob says none.": {
			"ok(a) :- W says none, not W says none, ann != bob, W < bob, none, bob says none.",
			"ok(a) :- W says none, not W says none, ann != bob, W < bob, ann says none, none.",
		},
	} {
		for user := range c.Users {
			cl, ok := Raise(c, user, rule(t, c, user, text))
			if s, e := clause.Print(cl); !ok || e != api.OK || s != want[user] {
				t.Errorf("Raise of %d, %q: %q, %v", user, text, s, ok)
			}
		}
	}
}

// lowered looks that a rule is not one that may be.
func lowered(t *testing.T, c api.Config, user int, r api.Rule) {
	t.Helper()
	if cl, ok := Raise(c, user, r); ok || !reflect.DeepEqual(cl, api.Clause{}) {
		t.Errorf("Raise of %d, %s: %v, %v", user, toldRule(r), cl, ok)
	}
	if Right(c, api.Said{User: user, No: 1, Rule: r}) {
		t.Errorf("Right of %d, %s", user, toldRule(r))
	}
}

// changes are such of ok(X) :- bob says p(X), not p(X), X < 3. of ann that it may not be.
func changes() map[string]func(*api.Rule) {
	zero, number, ann, bob, x := api.Term{}, api.Term{Val: api.Value{Num: 7}}, api.Term{Val: api.Value{Sym: "ann"}}, api.Term{Val: api.Value{Sym: "bob"}}, api.Term{Var: "X"}
	return map[string]func(*api.Rule){
		"nothing":                     func(r *api.Rule) { *r = api.Rule{} },
		"a head that is none":         func(r *api.Rule) { r.Head = api.Flat{} },
		"a head of another one":       func(r *api.Rule) { r.Head.Args[0] = bob },
		"a head of a variable":        func(r *api.Rule) { r.Head.Args[0] = x },
		"a head of a number":          func(r *api.Rule) { r.Head.Args[0] = number },
		"a head of the number 0":      func(r *api.Rule) { r.Head.Args[0] = zero },
		"a head of no speaker":        func(r *api.Rule) { r.Head.Args = r.Head.Args[1:] },
		"a head of no arguments":      func(r *api.Rule) { r.Head.Args = nil },
		"a head of another kind":      func(r *api.Rule) { r.Head.Kind = api.LNot },
		"a head that compares":        func(r *api.Rule) { r.Head = r.Body[2] },
		"a head of no kind":           func(r *api.Rule) { r.Head.Kind = 0 },
		"a head of no predicate":      func(r *api.Rule) { r.Head.Pred = "x" },
		"a head of too many":          func(r *api.Rule) { r.Head.Args = append(r.Head.Args, x) },
		"a head of too low a stratum": func(r *api.Rule) { r.Head.Pred = "p" },
		"a literal that is none":      func(r *api.Rule) { r.Body[1] = api.Flat{} },
		"a literal of no arguments":   func(r *api.Rule) { r.Body[0].Args = nil },
		"a literal of no speaker":     func(r *api.Rule) { r.Body[0].Args = r.Body[0].Args[1:] },
		"a literal of the number 0":   func(r *api.Rule) { r.Body[0].Args[0] = zero },
		"a not of the number 0":       func(r *api.Rule) { r.Body[1].Args[0] = zero },
		"a literal of a number":       func(r *api.Rule) { r.Body[0].Args[0] = number },
		"a literal of nobody":         func(r *api.Rule) { r.Body[0].Args[0].Val.Sym = "dan" },
		"a speaker with a number":     func(r *api.Rule) { r.Body[1].Args[0].Val.Num = 1 },
		"a speaker that is two":       func(r *api.Rule) { r.Body[1].Args[0].Var = "X" },
		"a variable that is none":     func(r *api.Rule) { r.Body[0].Args[0] = api.Term{Var: "x"} },
		"a variable with a value":     func(r *api.Rule) { r.Body[0].Args[1].Val = ann.Val },
		"a value that is none":        func(r *api.Rule) { r.Body[0].Args[1] = api.Term{Val: api.Value{Sym: "not"}} },
		"a literal of no kind":        func(r *api.Rule) { r.Body[0].Kind = 5 },
		"a literal of no predicate":   func(r *api.Rule) { r.Body[0].Pred = "" },
		"a literal of too many":       func(r *api.Rule) { r.Body[1].Args = append(r.Body[1].Args, x) },
		"a not that is not below":     func(r *api.Rule) { r.Body[1].Pred = "ok" },
		"a variable of no literal":    func(r *api.Rule) { r.Body = r.Body[1:] },
		"a comparison with a name":    func(r *api.Rule) { r.Body[2].Pred = "p" },
		"a comparison of one":         func(r *api.Rule) { r.Body[2].Args = r.Body[2].Args[:1] },
		"a comparison of none":        func(r *api.Rule) { r.Body[2].Args = nil },
		"a comparison of three":       func(r *api.Rule) { r.Body[2].Args = append([]api.Term{ann}, r.Body[2].Args...) },
		"a comparison of no value":    func(r *api.Rule) { r.Body[2].Args[1].Val.Sym = "A" },
		"a variable that is free":     func(r *api.Rule) { r.Body[2].Args[0].Var = "Y" },
		"too many literals":           func(r *api.Rule) { r.Body = slices.Repeat(r.Body, 3) },
	}
}

func TestRaiseOfWhatMayNotBe(t *testing.T) { // P9.1
	c, bad := given(t), given(t)
	bad.Users[1].Label = 2
	text := "ok(X) :- bob says p(X), not p(X), X < 3."
	for what, change := range changes() {
		r := rule(t, c, 0, text)
		change(&r)
		t.Run(what, func(t *testing.T) { lowered(t, c, 0, r) })
	}
	for _, user := range []int{-1, 1, 2, math.MinInt, math.MaxInt} {
		lowered(t, c, user, rule(t, c, 0, text))
	}
	lowered(t, bad, 0, rule(t, c, 0, text))
	lowered(t, api.Config{}, 0, rule(t, c, 0, text))
	nobody := given(t)
	nobody.Users[0].Name = ""
	lowered(t, nobody, 0, api.Rule{Head: flat(api.LPos, "p", "0", "a")})
}

// flats are literals of which some can be made of none: over the speakers and terms that may, or may not, be.
func flats() []api.Flat {
	var all []api.Flat
	for _, kind := range []uint8{0, api.LPos, api.LNot, api.LLess, api.LUnlike, 5} {
		for _, pred := range []string{"", "none", "p", "ok"} {
			all = append(all, flat(kind, pred))
			for _, first := range []string{"ann", "bob", "dan", "X", "0", "7"} {
				all = append(all, flat(kind, pred, first))
				for _, second := range []string{"ann", "X", "0"} {
					all = append(all, flat(kind, pred, first, second))
				}
			}
			all = append(all, flat(kind, pred, "ann", "0", "ann"))
		}
	}
	return all
}

// lits are all literals of which flats are made, and others.
func lits() []api.Lit {
	var all []api.Lit
	for _, f := range flats() {
		all = append(all, api.Lit{Kind: f.Kind, Pred: f.Pred, Args: f.Args})
		if len(f.Args) > 0 {
			all = append(all, api.Lit{Kind: f.Kind, Who: f.Args[0], Pred: f.Pred, Args: f.Args[1:]})
		}
	}
	return all
}

func TestRaiseOfAll(t *testing.T) { // P9.1: a rule may be, if it is some clause made flat that is sound
	c := given(t)
	heads := []api.Lit{readLit(t, "none"), readLit(t, "ok(X)"), readLit(t, "ok(a)")}
	for user := range c.Users {
		made := map[string]string{}
		for _, head := range heads {
			for _, l := range lits() {
				cl := api.Clause{Head: head, Body: []api.Lit{l}}
				r, e := Rule(c, user, cl)
				if e != sound.Check(c, user, cl) {
					t.Fatalf("Rule of %d, %v: %d", user, cl, e)
				}
				if e == api.OK {
					s, _ := clause.Print(cl)
					made[toldRule(r)] = strings.ReplaceAll(s, c.Users[user].Name+" says ", "")
				}
			}
		}
		if len(made) < 50 {
			t.Fatalf("no more than %d rules", len(made))
		}
		for _, first := range []string{"ann", "bob", "0", "X"} {
			for _, head := range []api.Flat{flat(api.LPos, "none", first), flat(api.LPos, "ok", first, "X"), flat(api.LPos, "ok", first, "a")} {
				for _, f := range flats() {
					r := api.Rule{Head: head, Body: []api.Flat{f}}
					cl, ok := Raise(c, user, r)
					want, may := made[toldRule(r)]
					s, _ := clause.Print(cl)
					if ok != may || s != want || !ok && !reflect.DeepEqual(cl, api.Clause{}) {
						t.Fatalf("Raise of %d, %s: %q, %v, not %q", user, toldRule(r), s, ok, want)
					}
				}
			}
		}
	}
}

// some is a clause of any literals that fit, which may be sound or not.
func some(r *rand.Rand) string {
	heads := []string{"ok(X)", "ok(a)", "p(X)", "none", "four(X, Y, 7, X)"}
	parts := []string{"p(X)", "ann says p(X)", "bob says p(Y)", "Y says none", "X says four(X, a, Y, 0)", "not p(X)", "not ann says bad(7)", "not bob says bad(X)", "not Y says none", "X < Y", "ann != X", "-7 < a", "bob says ok(X)"}
	text := heads[r.Intn(len(heads))]
	for i := range r.Intn(api.MaxBody + 1) {
		text += []string{" :- ", ", "}[min(i, 1)] + parts[r.Intn(len(parts))]
	}
	return text + "."
}

func TestManyRules(t *testing.T) { // P9.1
	c, chance, made := given(t), rand.New(rand.NewSource(9)), 0
	for range 5000 {
		text, user := some(chance), chance.Intn(2)
		cl := read(t, text)
		r, e := Rule(c, user, cl)
		if want := sound.Check(c, user, cl); e != want {
			t.Fatalf("Rule of %d, %q: %d, not %d", user, text, e, want)
		}
		if e != api.OK {
			continue
		}
		made++
		raised, ok := Raise(c, user, r)
		s, _ := clause.Print(raised)
		if want := strings.ReplaceAll(text, c.Users[user].Name+" says ", ""); !ok || s != want {
			t.Fatalf("Raise of %d, %q: %q, %v", user, text, s, ok)
		}
		if other, ok := Raise(c, 1-user, r); ok {
			t.Fatalf("Raise of %d, %q: %v", 1-user, text, other)
		}
		if again, e := Rule(c, user, raised); e != api.OK || toldRule(again) != toldRule(r) {
			t.Fatalf("Rule of what was raised of %d, %q: %s, %d", user, text, toldRule(again), e)
		}
	}
	if made < 500 {
		t.Fatalf("no more than %d rules", made)
	}
}

func TestPattern(t *testing.T) { // P9.1
	c := given(t)
	for text, want := range map[string][2]api.Flat{
		"p(a)":              {flat(api.LPos, "p", "ann", "a"), flat(api.LPos, "p", "bob", "a")},
		"none":              {flat(api.LPos, "none", "ann"), flat(api.LPos, "none", "bob")},
		"ok(X)":             {flat(api.LPos, "ok", "ann", "X"), flat(api.LPos, "ok", "bob", "X")},
		"ann says p(X)":     {flat(api.LPos, "p", "ann", "X"), flat(api.LPos, "p", "ann", "X")},
		"bob says none":     {flat(api.LPos, "none", "bob"), flat(api.LPos, "none", "bob")},
		"W says p(bob)":     {flat(api.LPos, "p", "W", "bob"), flat(api.LPos, "p", "W", "bob")},
		"four(0, X, X, -1)": {flat(api.LPos, "four", "ann", "0", "X", "X", "-1"), flat(api.LPos, "four", "bob", "0", "X", "X", "-1")},
	} {
		for user := range c.Users {
			if f, e := Pattern(c, user, readLit(t, text)); e != api.OK || told(f) != told(want[user]) {
				t.Errorf("Pattern of %d, %q: %s, %d", user, text, told(f), e)
			}
		}
	}
}

func TestPatternOfWhatMayNotBe(t *testing.T) { // P9.1
	c, bad := given(t), given(t)
	bad.Purse = -1
	refused := func(c api.Config, user int, l api.Lit, want api.Errno) {
		t.Helper()
		if f, e := Pattern(c, user, l); e != want || !reflect.DeepEqual(f, api.Flat{}) {
			t.Errorf("Pattern of %d, %v: %s, %d", user, l, told(f), e)
		}
	}
	for text, want := range map[string]api.Errno{
		"x": api.ErrPred, "dan says x(a)": api.ErrPred, "p": api.ErrArity, "dan says p(a, b)": api.ErrArity, "dan says p(X)": api.ErrSpeaker,
	} {
		l := readLit(t, text)
		refused(c, 0, l, want)
		refused(c, 1, l, want)
		refused(c, 2, l, api.ErrArg)
		refused(bad, 0, l, api.ErrArg)
	}
	l := readLit(t, "p(a)")
	for _, user := range []int{-1, 2, math.MinInt, math.MaxInt} {
		refused(c, user, l, api.ErrArg)
	}
	refused(api.Config{}, 0, l, api.ErrArg)
	refused(bad, 1, l, api.ErrArg)
	refused(c, 0, api.Lit{}, api.ErrArg)
	for _, kind := range []uint8{0, api.LNot, api.LLess, api.LUnlike, 5} {
		l.Kind = kind
		refused(c, 0, l, api.ErrArg)
	}
	refused(c, 0, read(t, "p(a) :- 1 < 2.").Body[0], api.ErrArg)
	for what, change := range map[string]func(*api.Lit){
		"a number as a speaker": func(l *api.Lit) { l.Who.Val = api.Value{Num: 1} },
		"a value that is none":  func(l *api.Lit) { l.Args[0].Val.Num = 1 },
		"too many arguments":    func(l *api.Lit) { l.Args = slices.Repeat(l.Args, 5) },
	} {
		l := readLit(t, "bob says p(a)")
		change(&l)
		t.Run(what, func(t *testing.T) { refused(c, 0, l, api.ErrArg) })
	}
	nobody := given(t)
	nobody.Users = nil
	refused(nobody, 0, readLit(t, "p(a)"), api.ErrArg)
}
