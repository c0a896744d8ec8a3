package live

import (
	"math"
	"reflect"
	"slices"
	"strconv"
	"strings"
	"testing"

	"mandate/api"
	"mandate/clause"
	"mandate/config"
	"mandate/lower"
)

// setup has labels of which mid and side are not one above the other.
const setup = `label low
label mid
label side
label high
above mid low
above side low
above high mid
above high side
user ann low
user bob mid
user eve high
pred p 1 0
pred z 0 0
pred ok 1 1
bound 9
purse 5 100
`

const (
	low, mid, side, high = 0, 1, 2, 3
	ann, bob, eve        = 0, 1, 2
)

func made(t testing.TB, text string) api.Config {
	t.Helper()
	c, line, errno := config.Parse(text)
	if errno != api.OK {
		t.Fatalf("the configuration: %d at %d", errno, line)
	}
	return c
}

func begun(t testing.TB, text string) *Set {
	t.Helper()
	s, errno := New(made(t, text))
	if errno != api.OK || s == nil {
		t.Fatalf("New: %v, %d", s, errno)
	}
	return s
}

func parsed(t testing.TB, text string) api.Clause {
	t.Helper()
	cl, at, errno := clause.Parse(text)
	if errno != api.OK {
		t.Fatalf("%s: %d at %d", text, errno, at)
	}
	return cl
}

// asserted asserts what may be asserted.
func asserted(t testing.TB, s *Set, user, label int, life int64, text string, cost complex128) int {
	t.Helper()
	no, errno := s.Assert(user, label, life, parsed(t, text), cost)
	if errno != api.OK {
		t.Fatalf("Assert of %s: %d", text, errno)
	}
	return no
}

// P21.1: what a set is made with; without one there is none.
func TestNew(t *testing.T) {
	s := begun(t, setup)
	if s.Now() != 0 || len(s.All()) != 0 || s.Has(ann, 1) || s.Has(ann, 0) || s.Used(ann) != 0 {
		t.Error("a set begins with something")
	}
	bad := made(t, setup)
	bad.Bound = 0
	doubled := made(t, setup)
	doubled.Users[1].Name = "ann"
	astray := made(t, setup)
	astray.Users[1].Label = 4
	for i, c := range []api.Config{{}, bad, doubled, astray} {
		if s, errno := New(c); s != nil || errno != api.ErrArg {
			t.Errorf("New of the bad configuration %d: %v, %d", i, s, errno)
		}
	}
	nobody := begun(t, "label low\nbound 1\npurse 0 0")
	if nobody.May(0, 0, 0, api.Clause{}, 0) != api.ErrArg || nobody.Tick() != api.OK || len(nobody.All()) != 0 {
		t.Error("a set without users")
	}
}

// asking is what May is asked.
type asking struct {
	user, label int
	life        int64
	text        string
	cost        complex128
}

func (a asking) may(t testing.TB, s *Set) api.Errno {
	t.Helper()
	return s.May(a.user, a.label, a.life, parsed(t, a.text), a.cost)
}

// P21.1: numbers that are none, lives that are too long, costs that are no purse.
func TestMayOfWrongArguments(t *testing.T) {
	nan, inf := math.NaN(), math.Inf(1)
	good := asking{bob, high, 3, "p(a).", 2 + 3i}
	for i, change := range []func(*asking){
		func(a *asking) { a.user = -1 },
		func(a *asking) { a.user = 3 },
		func(a *asking) { a.user = math.MinInt },
		func(a *asking) { a.user = math.MaxInt },
		func(a *asking) { a.label = -1 },
		func(a *asking) { a.label = 4 },
		func(a *asking) { a.label = math.MinInt },
		func(a *asking) { a.label = math.MaxInt },
		func(a *asking) { a.life = -1 },
		func(a *asking) { a.life = math.MinInt64 },
		func(a *asking) { a.life = api.MaxTick + 1 },
		func(a *asking) { a.life = math.MaxInt64 },
		func(a *asking) { a.cost = complex(-1, 0) },
		func(a *asking) { a.cost = complex(0, -1) },
		func(a *asking) { a.cost = complex(0.5, 0) },
		func(a *asking) { a.cost = complex(0, 0.5) },
		func(a *asking) { a.cost = complex(api.MaxPurse+1, 0) },
		func(a *asking) { a.cost = complex(0, api.MaxPurse+1) },
		func(a *asking) { a.cost = complex(nan, 0) },
		func(a *asking) { a.cost = complex(0, nan) },
		func(a *asking) { a.cost = complex(inf, 0) },
		func(a *asking) { a.cost = complex(0, -inf) },
	} {
		s, a := begun(t, setup), good
		change(&a)
		if errno := a.may(t, s); errno != api.ErrArg {
			t.Errorf("May of the wrong argument %d: %d", i, errno)
		}
		// No error that is named behind it goes ahead of it.
		a.text = "q(X) :- dan says p(X, Y), Z < 3."
		if errno := a.may(t, s); errno != api.ErrArg {
			t.Errorf("May of the wrong argument %d and a wrong clause: %d", i, errno)
		}
		if no, errno := s.Assert(a.user, a.label, a.life, parsed(t, "p(a)."), a.cost); no != 0 || errno != api.ErrArg {
			t.Errorf("Assert of the wrong argument %d: %d, %d", i, no, errno)
		}
	}
	if errno := good.may(t, begun(t, setup)); errno != api.OK {
		t.Errorf("May of good arguments: %d", errno)
	}
	if errno := begun(t, setup).May(bob, high, 3, api.Clause{}, 2+3i); errno != api.ErrArg {
		t.Errorf("May of a clause that may not be: %d", errno)
	}
}

// P21.1: layer 8's errors, ahead of those of labels and purses.
func TestMayOfUnsoundClauses(t *testing.T) {
	s := begun(t, setup)
	for text, want := range map[string]api.Errno{
		"q(a).":                   api.ErrPred,
		"p(a, b).":                api.ErrArity,
		"ok(X) :- dan says p(X).": api.ErrSpeaker,
		"p(X) :- ok(X).":          api.ErrStratum,
		"p(X) :- not p(X).":       api.ErrStratum,
		"p(X).":                   api.ErrRange,
		"ok(X) :- not p(X).":      api.ErrRange,
	} {
		for _, label := range []int{low, mid, side, high} {
			for _, cost := range []complex128{0, 6, 101i} {
				if errno := (asking{bob, label, 0, text, cost}).may(t, s); errno != want {
					t.Errorf("May of %s at %d: %d, not %d", text, label, errno, want)
				}
				if no, errno := s.Assert(bob, label, 0, parsed(t, text), cost); no != 0 || errno != want {
					t.Errorf("Assert of %s at %d: %d, %d, not %d", text, label, no, errno, want)
				}
			}
		}
	}
	if len(s.All()) != 0 {
		t.Error("what was refused is live")
	}
}

// P21.1: at which labels each user may assert.
func TestMayOfLabels(t *testing.T) {
	s := begun(t, setup)
	for user, labels := range [][]int{ann: {low, mid, side, high}, bob: {mid, high}, eve: {high}} {
		for label := range 4 {
			want, dear := api.ErrLabel, api.ErrLabel
			if slices.Contains(labels, label) {
				want, dear = api.OK, api.ErrPurse
			}
			if errno := (asking{user, label, 0, "p(a).", 1}).may(t, s); errno != want {
				t.Errorf("May of %d at %d: %d, not %d", user, label, errno, want)
			}
			if errno := (asking{user, label, 0, "p(a).", 6}).may(t, s); errno != dear {
				t.Errorf("May of %d at %d of too much: %d, not %d", user, label, errno, dear)
			}
		}
	}
}

// P21.1: as many as a user may have; ahead of the purse, behind the label.
func TestMayOfTooMany(t *testing.T) {
	s := begun(t, strings.Replace(setup, "purse 5 100", "purse 32 100", 1))
	for i := range api.MaxOwn {
		if no := asserted(t, s, bob, mid, 0, "p("+strconv.Itoa(i)+").", 1+1i); no != i+1 {
			t.Errorf("the number %d is told as %d", i+1, no)
		}
	}
	for _, a := range []struct {
		asking
		want api.Errno
	}{
		{asking{bob, mid, 0, "p(a).", 0}, api.ErrFull},
		{asking{bob, mid, 0, "p(a).", 1}, api.ErrFull},
		{asking{bob, mid, 0, "p(a).", 200i}, api.ErrFull},
		{asking{bob, low, 0, "p(a).", 0}, api.ErrLabel},
		{asking{bob, mid, 0, "q(a).", 0}, api.ErrPred},
		{asking{ann, mid, 0, "p(a).", 1}, api.OK},
		{asking{ann, mid, 0, "p(a).", 33}, api.ErrPurse},
	} {
		if errno := a.may(t, s); errno != a.want {
			t.Errorf("%v: %d, not %d", a.asking, errno, a.want)
		}
	}
	// One that is live no more makes room.
	if errno := s.Revoke(bob, 7); errno != api.OK {
		t.Fatalf("Revoke: %d", errno)
	}
	if no := asserted(t, s, bob, mid, 0, "p(a).", 0); no != api.MaxOwn+1 {
		t.Errorf("the next number: %d", no)
	}
	if errno := (asking{bob, mid, 0, "p(a).", 0}).may(t, s); errno != api.ErrFull {
		t.Errorf("May of one more: %d", errno)
	}
}

// P21.1, P21.2: what a purse holds, to the last unit and byte.
func TestMayOfPurses(t *testing.T) {
	s := begun(t, setup)
	asserted(t, s, bob, mid, 0, "p(a).", 2+60i)
	for cost, want := range map[complex128]api.Errno{
		0:                                api.OK,
		3 + 40i:                          api.OK,
		4 + 40i:                          api.ErrPurse,
		3 + 41i:                          api.ErrPurse,
		complex(api.MaxPurse, 0):         api.ErrPurse,
		complex(0, api.MaxPurse):         api.ErrPurse,
		complex(math.Copysign(0, -1), 0): api.OK,
	} {
		if errno := (asking{bob, mid, 0, "p(b).", cost}).may(t, s); errno != want {
			t.Errorf("May of %v: %d, not %d", cost, errno, want)
		}
	}
	if errno := (asking{ann, mid, 0, "p(b).", 5 + 100i}).may(t, s); errno != api.OK {
		t.Errorf("May of another user: %d", errno)
	}
	asserted(t, s, bob, mid, 0, "p(b).", 3+40i)
	if used := s.Used(bob); used != 5+100i {
		t.Errorf("Used: %v", used)
	}
	// What costs nothing fits even now.
	asserted(t, s, bob, mid, 0, "p(c).", 0)
	if errno := (asking{bob, mid, 0, "p(b).", 1i}).may(t, s); errno != api.ErrPurse {
		t.Errorf("May of one byte more: %d", errno)
	}
	if s.Revoke(bob, 1) != api.OK || s.Used(bob) != 3+40i {
		t.Errorf("Used behind Revoke: %v", s.Used(bob))
	}
	if errno := (asking{bob, mid, 0, "p(b).", 2 + 60i}).may(t, s); errno != api.OK {
		t.Errorf("May behind Revoke: %d", errno)
	}
}

// P21.2: of the greatest purses the sums are still told to the last unit.
func TestGreatPurses(t *testing.T) {
	s := begun(t, strings.Replace(setup, "purse 5 100", "purse 1099511627776 1099511627776", 1))
	asserted(t, s, ann, low, 0, "p(a).", complex(api.MaxPurse-1, api.MaxPurse-3))
	asserted(t, s, ann, low, 0, "p(a).", 2i)
	if used := s.Used(ann); used != complex(api.MaxPurse-1, api.MaxPurse-1) {
		t.Errorf("Used: %v", used)
	}
	if s.May(ann, low, 0, parsed(t, "p(a)."), 1+1i) != api.OK || s.May(ann, low, 0, parsed(t, "p(a)."), 2) != api.ErrPurse || s.May(ann, low, 0, parsed(t, "p(a)."), 2i) != api.ErrPurse {
		t.Error("May at the greatest purse")
	}
}

// P21.2: no part of what is used is -0.
func TestUsedHasNoNegativeNought(t *testing.T) {
	s, minus := begun(t, setup), math.Copysign(0, -1)
	asserted(t, s, ann, low, 0, "p(a).", complex(minus, minus))
	for _, used := range []complex128{s.Used(ann), s.Used(bob), s.Used(-1)} {
		if math.Signbit(real(used)) || math.Signbit(imag(used)) || used != 0 {
			t.Errorf("Used: %v", used)
		}
	}
}

// P21.2: numbers rise for each user by themselves, and none comes back.
func TestNumbers(t *testing.T) {
	s := begun(t, setup)
	for i, want := range []int{1, 2} {
		if no := asserted(t, s, ann, low, 0, "p(a).", 1); no != want {
			t.Errorf("ann's assertion %d: %d", i, no)
		}
	}
	if no := asserted(t, s, bob, mid, 0, "p(a).", 1); no != 1 {
		t.Errorf("bob's first one: %d", no)
	}
	if s.Revoke(ann, 2) != api.OK {
		t.Error("Revoke of the last one")
	}
	if no, errno := s.Assert(ann, low, 0, parsed(t, "q(a)."), 1); no != 0 || errno != api.ErrPred {
		t.Errorf("a refused one: %d, %d", no, errno)
	}
	if no := asserted(t, s, ann, low, 0, "p(a).", 1); no != 3 {
		t.Errorf("the one behind what was revoked and what was refused: %d", no)
	}
	if !s.Has(ann, 1) || s.Has(ann, 2) || !s.Has(ann, 3) || s.Has(ann, 4) || s.Has(bob, 2) || !s.Has(bob, 1) || s.Has(eve, 1) || s.Has(-1, 1) || s.Has(3, 1) || s.Has(ann, 0) || s.Has(ann, -1) {
		t.Error("Has")
	}
}

// P21.2: the chapter's example; what is not live is not revoked.
func TestExample(t *testing.T) {
	s := begun(t, setup)
	if no := asserted(t, s, ann, low, 2, "p(c).", 1); no != 1 || !s.Has(ann, 1) {
		t.Errorf("Assert: %d", no)
	}
	if s.Tick() != api.OK || !s.Has(ann, 1) || s.Tick() != api.OK || s.Has(ann, 1) || s.Now() != 2 {
		t.Error("it is not live for two ticks")
	}
	if s.Revoke(ann, 1) != api.ErrId {
		t.Error("Revoke of what is over")
	}
	if no := asserted(t, s, ann, low, 0, "p(c).", 1); no != 2 {
		t.Errorf("Assert again: %d", no)
	}
	for _, who := range [][2]int{{bob, 2}, {-1, 2}, {3, 2}, {ann, 3}, {ann, 0}, {ann, -2}, {math.MinInt, math.MaxInt}} {
		if errno := s.Revoke(who[0], who[1]); errno != api.ErrId || !s.Has(ann, 2) {
			t.Errorf("Revoke of %v: %d", who, errno)
		}
	}
	if s.Revoke(ann, 2) != api.OK || s.Has(ann, 2) || s.Revoke(ann, 2) != api.ErrId || s.Used(ann) != 0 {
		t.Error("Revoke of 2, twice")
	}
}

// P21.2: what is told of an assertion.
func TestSaid(t *testing.T) {
	s := begun(t, setup)
	for range 4 {
		s.Tick()
	}
	const text = "ok(X) :- eve says p(X), not X says p(1), z, X != ann, X < 3."
	asserted(t, s, eve, high, 0, "z.", 1)
	asserted(t, s, bob, high, 7, text, 1)
	asserted(t, s, ann, side, 1, "p(-7).", 1)
	rule, errno := lower.Rule(made(t, setup), bob, parsed(t, text))
	if errno != api.OK {
		t.Fatalf("Rule: %d", errno)
	}
	symbol := func(s string) api.Term { return api.Term{Val: api.Value{Sym: s}} }
	want := []api.Said{
		{User: ann, No: 1, Label: side, Till: 5, Rule: api.Rule{Head: api.Flat{Kind: api.LPos, Pred: "p", Args: []api.Term{symbol("ann"), {Val: api.Value{Num: -7}}}}}},
		{User: bob, No: 1, Label: high, Till: 11, Rule: rule},
		{User: eve, No: 1, Label: high, Rule: api.Rule{Head: api.Flat{Kind: api.LPos, Pred: "z", Args: []api.Term{symbol("eve")}}}},
	}
	if all := s.All(); !reflect.DeepEqual(all, want) || !lower.Live(made(t, setup), all) {
		t.Errorf("All: %v", all)
	}
}

// P21.1, P21.3: the last tick: what lives till it, what lives for ever, and time that goes no further.
func TestLastTick(t *testing.T) {
	s := begun(t, setup)
	s.now = api.MaxTick - 2
	for life, want := range map[int64]api.Errno{0: api.OK, 1: api.OK, 2: api.OK, 3: api.ErrArg, api.MaxTick: api.ErrArg, math.MaxInt64: api.ErrArg} {
		if errno := (asking{ann, low, life, "p(a).", 1}).may(t, s); errno != want {
			t.Errorf("May of the life %d: %d, not %d", life, errno, want)
		}
	}
	asserted(t, s, ann, low, 1, "p(a).", 1)
	asserted(t, s, ann, low, 2, "p(b).", 1)
	asserted(t, s, ann, low, 0, "p(c).", 1)
	if all := s.All(); all[0].Till != api.MaxTick-1 || all[1].Till != api.MaxTick || all[2].Till != 0 || !lower.Live(made(t, setup), all) {
		t.Errorf("All: %v", all)
	}
	if s.Tick() != api.OK || s.Has(ann, 1) || !s.Has(ann, 2) || s.Tick() != api.OK || s.Has(ann, 2) || !s.Has(ann, 3) || s.Now() != api.MaxTick {
		t.Error("the last two ticks")
	}
	before := s.All()
	if s.Tick() != api.ErrFull || s.Now() != api.MaxTick || !reflect.DeepEqual(s.All(), before) || s.Used(ann) != 1 {
		t.Error("a tick behind the last one")
	}
	if s.May(ann, low, 0, parsed(t, "p(a)."), 1) != api.OK || s.May(ann, low, 1, parsed(t, "p(a)."), 1) != api.ErrArg {
		t.Error("May at the last tick")
	}
	whole := begun(t, setup)
	asserted(t, whole, ann, low, api.MaxTick, "p(a).", 1)
	if all := whole.All(); all[0].Till != api.MaxTick {
		t.Errorf("All of the longest life: %v", all)
	}
}

// P21.3: a nil set.
func TestNil(t *testing.T) {
	var s *Set
	if errno := s.May(0, 0, 0, parsed(t, "p(a)."), 1); errno != api.ErrArg {
		t.Errorf("May: %d", errno)
	}
	if no, errno := s.Assert(0, 0, 0, parsed(t, "p(a)."), 1); no != 0 || errno != api.ErrArg {
		t.Errorf("Assert: %d, %d", no, errno)
	}
	if s.Revoke(0, 1) != api.ErrId || s.Tick() != api.ErrArg || s.Has(0, 1) || s.Now() != 0 || len(s.All()) != 0 || s.Used(0) != 0 {
		t.Error("a nil set")
	}
}

// R4: what was handed in is neither kept nor changed, and no two answers share anything.
func TestNothingIsShared(t *testing.T) {
	c, want := made(t, setup), made(t, setup)
	s, _ := New(c)
	const text = "ok(X) :- p(X), not bob says p(X), X < 3."
	cl := parsed(t, text)
	if no, errno := s.Assert(bob, mid, 0, cl, 1); no != 1 || errno != api.OK {
		t.Fatalf("Assert: %d, %d", no, errno)
	}
	if !reflect.DeepEqual(c, want) || !reflect.DeepEqual(cl, parsed(t, text)) {
		t.Error("what was handed in is changed")
	}
	first, second := s.All(), s.All()
	c.Labels[0], c.Up[0], c.Users[1], c.Preds[0] = "", 0, api.User{Name: "x", Label: 3}, api.Pred{}
	cl.Head.Args[0], cl.Body[0].Args[0], cl.Body[1] = api.Term{Var: "Y"}, api.Term{Var: "Y"}, api.Lit{}
	rule := first[0].Rule
	rule.Head.Args[0], rule.Body[0].Args[0], rule.Body[1].Args[1], rule.Body[2] = api.Term{}, api.Term{}, api.Term{}, api.Flat{}
	for _, l := range [][]api.Term{rule.Head.Args, rule.Body[0].Args, rule.Body[1].Args} {
		_ = append(l, api.Term{Var: "Z"})
	}
	if all := s.All(); !reflect.DeepEqual(all, second) || !lower.Live(want, all) {
		t.Errorf("All: %v", all)
	}
	if errno := s.May(bob, mid, 0, parsed(t, text), 1); errno != api.OK {
		t.Errorf("May: %d", errno)
	}
}
