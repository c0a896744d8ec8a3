package plan

import (
	"math"
	"math/rand"
	"reflect"
	"slices"
	"strconv"
	"strings"
	"testing"

	"mandate/api"
	"mandate/clause"
	"mandate/config"
	"mandate/lower"
	"mandate/value"
)

// flat is a literal of words: its kind's sign (+, -, < or !=), for + and - its predicate, its terms.
func flat(words string) api.Flat {
	l := strings.Fields(words)
	f := api.Flat{Kind: map[string]uint8{"+": api.LPos, "-": api.LNot, "<": api.LLess, "!=": api.LUnlike}[l[0]]}
	l = l[1:]
	if f.Kind == api.LPos || f.Kind == api.LNot {
		f.Pred, l = l[0], l[1:]
	}
	for _, s := range l {
		if v, ok := value.Read(s); ok {
			f.Args = append(f.Args, api.Term{Val: v})
		} else {
			f.Args = append(f.Args, api.Term{Var: s})
		}
	}
	return f
}

// ruled is a rule of literals, with a ; between each two; the head is not asked for.
func ruled(words string) api.Rule {
	r := api.Rule{Head: flat("+ head a")}
	for _, s := range strings.Split(words, ";") {
		if s != "" {
			r.Body = append(r.Body, flat(s))
		}
	}
	return r
}

func orders(t *testing.T, words string, want ...int) {
	t.Helper()
	if l, ok := Order(ruled(words)); !ok || !slices.Equal(l, want) {
		t.Errorf("Order(%s): %v, %v, not %v", words, l, ok, want)
	}
}

func begins(t *testing.T, words string, k int, want ...int) {
	t.Helper()
	if l, ok := From(ruled(words), k); !ok || !slices.Equal(l, want) {
		t.Errorf("From(%s, %d): %v, %v, not %v", words, k, l, ok, want)
	}
}

func noOrder(t *testing.T, r api.Rule) {
	t.Helper()
	if l, ok := Order(r); ok || len(l) != 0 {
		t.Errorf("Order(%v): %v, %v", r, l, ok)
	}
	for k := range r.Body {
		noBegin(t, r, k)
	}
}

func noBegin(t *testing.T, r api.Rule, k int) {
	t.Helper()
	if l, ok := From(r, k); ok || len(l) != 0 {
		t.Errorf("From(%v, %d): %v, %v", r, k, l, ok)
	}
}

func TestExamples(t *testing.T) { // P13.1: the chapter's examples
	orders(t, "- bad ann X; + p ann X; != X me", 1, 0, 2)
	begins(t, "+ q ann X Y; + q ann Y Z", 1, 1, 0)
	begins(t, "+ q ann X Y; + q ann Y Z", 0, 0, 1)
}

func TestOrder(t *testing.T) { // P13.1
	orders(t, "")
	orders(t, "+ p a", 0)
	orders(t, "+ p X", 0)
	orders(t, "+ p X; + q Y", 0, 1)
	// What asks something of what is bound goes ahead of all that binds, the least number first.
	orders(t, "+ p a; - q a; < 1 2; != a b", 1, 2, 3, 0)
	orders(t, "+ p X; + q X X; - r X; < X 3", 0, 2, 3, 1)
	orders(t, "+ p X; + q X Y; - r X; < X Y", 0, 2, 1, 3)
	orders(t, "< Y X; != X 2; + p Y; + q X", 2, 3, 0, 1)
	// Of what binds that which has the most values and bound variables.
	orders(t, "+ p X; + q a X; + r a b X", 2, 1, 0)
	orders(t, "+ p X Y Z; + q a X; + r a b X Y Z", 2, 0, 1)
	orders(t, "+ p X Y; + q a; + r Z b", 1, 2, 0)
	orders(t, "+ p A B; + q B C; + r C a", 2, 1, 0)
	orders(t, "+ p A; + q B; + r C C C; + s a C", 3, 2, 0, 1)
	orders(t, "+ p A; + q B B; + r a", 2, 0, 1)
	// A variable that stands there twice counts twice, when it is bound, and not ahead.
	orders(t, "+ p X; + q a Y b; + r X X X Z; + s Y c d", 1, 3, 0, 2)
	orders(t, "+ p X a; + q X X X Z; + r X b b", 2, 1, 0)
	// It is the number that counts, not the share.
	orders(t, "+ p a; + q a b X Y Z", 1, 0)
	// What is no LPos binds nothing.
	orders(t, "+ p X a; - q X a; + r X Y a b; < X Y; + s Y", 2, 1, 3, 0, 4)
	// The same literal twice is two.
	orders(t, "+ p X; + p X; - q X; - q X", 0, 2, 3, 1)
	// A literal without arguments has none that is not bound.
	orders(t, "+ p; - q; < ; + r a", 1, 2, 3, 0)
}

func TestFrom(t *testing.T) { // P13.1
	begins(t, "+ p X", 0, 0)
	// The first one is that which is named, even ahead of what could be asked at once.
	begins(t, "- q a; + p X; + r a b", 1, 1, 0, 2)
	begins(t, "- q a; + p X; + r a b", 2, 2, 0, 1)
	begins(t, "+ p a; - q X; + r X", 0, 0, 2, 1)
	begins(t, "+ p a; - q X; + r X", 2, 2, 1, 0)
	// The others go on from what it binds.
	begins(t, "+ p X Y; + q Y Z; + r Z W; + s a", 2, 2, 1, 0, 3)
	begins(t, "+ p X Y; + q Y Z; + r Z W; + s a", 0, 0, 1, 2, 3)
	begins(t, "+ p X Y; + q Y Z; + r Z W; + s a", 1, 1, 0, 2, 3)
	begins(t, "+ p X; + p X; < X 2", 1, 1, 2, 0)
}

func TestNoPlan(t *testing.T) { // P13.1
	for _, words := range []string{"- p X", "< X 1", "!= 1 X", "+ p X; - q X Y", "+ p X; < X Y", "+ p X; != Y X; + q Z", "- p a; - q X", "< X X"} {
		noOrder(t, ruled(words))
	}
	for _, kind := range []uint8{0, 5, 6, 255} {
		for at := range 3 {
			r := ruled("+ p X; - q X; + r a X")
			r.Body[at].Kind = kind
			noOrder(t, r)
		}
		noOrder(t, api.Rule{Body: []api.Flat{{Kind: kind}}})
	}
}

func TestFromWhatIsNone(t *testing.T) { // P13.1
	r := ruled("+ p X; - q X; < X 1; != X 1")
	for _, k := range []int{1, 2, 3, 4, -1, 64, math.MinInt, math.MaxInt} {
		noBegin(t, r, k)
	}
	for _, k := range []int{0, -1, 1} {
		noBegin(t, api.Rule{}, k)
		noBegin(t, api.Rule{Head: flat("+ p X")}, k)
	}
	begins(t, "+ p X; - q X; < X 1; != X 1", 0, 0, 1, 2, 3)
}

func TestTheHeadIsNotAsked(t *testing.T) { // P13.1
	for _, head := range []api.Flat{{}, flat("+ p X Y Z"), flat("- p X"), flat("< X Y"), {Kind: 9, Args: []api.Term{{Var: "x"}}}} {
		r := ruled("+ p X; + q a X")
		r.Head = head
		if l, ok := Order(r); !ok || !slices.Equal(l, []int{1, 0}) {
			t.Errorf("Order(%v): %v, %v", r, l, ok)
		}
		if l, ok := From(r, 0); !ok || !slices.Equal(l, []int{0, 1}) {
			t.Errorf("From(%v): %v, %v", r, l, ok)
		}
	}
}

func TestWhatTermsAre(t *testing.T) { // P13.1: a term is a variable or a value by its Var alone
	odd := api.Rule{Body: []api.Flat{
		{Kind: api.LPos, Args: []api.Term{{Var: "X", Val: api.Value{Sym: "a"}}, {}}},
		{Kind: api.LPos, Args: []api.Term{{Val: api.Value{Sym: "X"}}, {Val: api.Value{Sym: "not", Num: 4}}}},
		{Kind: api.LNot, Args: []api.Term{{Val: api.Value{Sym: "Y"}}}},
	}}
	if l, ok := Order(odd); !ok || !slices.Equal(l, []int{2, 1, 0}) {
		t.Errorf("%v, %v", l, ok)
	}
	if names := Vars(odd.Body[0]); !slices.Equal(names, []string{"X"}) {
		t.Errorf("%q", names)
	}
	if names := Vars(odd.Body[1]); len(names) != 0 {
		t.Errorf("%q", names)
	}
}

// worth tells by the words of the chapter how soon a literal can be next: 0, not at all; 1 and above, the more the sooner.
func worth(f api.Flat, bound string) int {
	many, all := 0, true
	for _, x := range f.Args {
		if x.Var == "" || strings.Contains(bound, " "+x.Var+" ") {
			many++
		} else {
			all = false
		}
	}
	switch {
	case f.Kind == api.LPos:
		return 1 + many
	case f.Kind >= api.LNot && f.Kind <= api.LUnlike && all:
		return 1000
	}
	return 0
}

// byTheWords is the plan by the words of the chapter.
func byTheWords(r api.Rule, first ...int) ([]int, bool) {
	var l []int
	bound := " "
	for len(l) < len(r.Body) {
		next := -1
		for k := len(r.Body) - 1; k >= 0; k-- {
			w := worth(r.Body[k], bound)
			if w > 0 && !slices.Contains(l, k) && (next < 0 || w >= worth(r.Body[next], bound)) {
				next = k
			}
		}
		if len(l) < len(first) {
			next = first[len(l)]
		}
		if next < 0 {
			return nil, false
		}
		l = append(l, next)
		if f := r.Body[next]; f.Kind == api.LPos {
			for _, x := range f.Args {
				bound += x.Var + " "
			}
		}
	}
	return l, true
}

// drawn is a rule of a body of at most some literals.
func drawn(chance *rand.Rand, most int) api.Rule {
	var r api.Rule
	for range chance.Intn(most + 1) {
		f := api.Flat{Kind: []uint8{api.LPos, api.LPos, api.LPos, api.LNot, api.LLess, api.LUnlike}[chance.Intn(6)], Pred: "p"}
		if chance.Intn(60) == 0 {
			f.Kind = uint8(chance.Intn(8))
		}
		for range chance.Intn(6) {
			x := api.Term{Val: api.Value{Num: 1}}
			if chance.Intn(3) > 0 {
				x = api.Term{Var: string(rune('A' + chance.Intn(7)))}
			}
			f.Args = append(f.Args, x)
		}
		r.Body = append(r.Body, f)
	}
	return r
}

func TestManyPlans(t *testing.T) { // P13.1
	chance := rand.New(rand.NewSource(13))
	planned, none := 0, 0
	for i := range 60000 {
		r := drawn(chance, 6+i%7)
		l, ok := Order(r)
		if want, is := byTheWords(r); ok != is || !slices.Equal(l, want) {
			t.Fatalf("Order(%v): %v, %v, not %v", r, l, ok, want)
		}
		if ok {
			planned++
		} else {
			none++
		}
		for k, f := range r.Body {
			l, ok := From(r, k)
			want, is := []int(nil), false
			if f.Kind == api.LPos {
				want, is = byTheWords(r, k)
			}
			if ok != is || !slices.Equal(l, want) {
				t.Fatalf("From(%v, %d): %v, %v, not %v", r, k, l, ok, want)
			}
		}
	}
	if planned < 10000 || none < 10000 {
		t.Errorf("too plain: %d plans, %d without", planned, none)
	}
}

func TestSoundRulesHavePlans(t *testing.T) { // P13.1
	c, _, errno := config.Parse("label low\nuser ann low\nuser bob low\npred p 1 0\npred q 2 0\npred ok 1 1\nbound 9\npurse 9 900")
	if errno != api.OK {
		t.Fatal(errno)
	}
	for text, want := range map[string][]int{
		"p(a).":                                nil,
		"ok(X) :- bob says p(X), not p(X).":    {0, 1},
		"ok(X) :- not W says p(X), q(W, X).":   {1, 0},
		"ok(X) :- W says p(X), bob says p(W).": {1, 0},
		"ok(X) :- X < Y, W != Y, W says q(X, 1), V says p(Y), Y < Z, q(Z, Z).":  {2, 5, 3, 0, 1, 4},
		"ok(a) :- q(X, Y), not q(Y, X), q(Y, Z), X < Z, not p(X), q(X, Z).":     {0, 1, 4, 2, 3, 5},
		"p(X) :- W says p(X), W says p(X), W says p(Y), p(Y), q(X, Y), a != b.": {5, 3, 4, 0, 1, 2},
	} {
		cl, at, errno := clause.Parse(text)
		if errno != api.OK {
			t.Fatalf("%q: %d at %d", text, errno, at)
		}
		r, errno := lower.Rule(c, 0, cl)
		if errno != api.OK {
			t.Fatalf("%q: %d", text, errno)
		}
		if l, ok := Order(r); !ok || !slices.Equal(l, want) {
			t.Errorf("Order(%s): %v, %v, not %v", text, l, ok, want)
		}
	}
}

func TestLongBodies(t *testing.T) { // P13.1, R1: no limit is named
	const many = 1000
	var r api.Rule
	var want, back []int
	for k := range many {
		from, to := "V"+strconv.Itoa(k), "V"+strconv.Itoa(k+1)
		r.Body = append(r.Body, flat("+ q "+from+" "+to))
		want, back = append(want, k), append(back, many-1-k)
	}
	if l, ok := Order(r); !ok || !slices.Equal(l, want) {
		t.Errorf("%v, %v", l, ok)
	}
	if l, ok := From(r, many-1); !ok || !slices.Equal(l, back) {
		t.Errorf("%v, %v", l, ok)
	}
	if l := Bound(r, want); len(l) != many+1 || l[0] != "V0" || l[many] != "V1000" {
		t.Errorf("%d: %q", len(l), l)
	}
}

func named(t *testing.T, what string, got []string, want string) {
	t.Helper()
	if !slices.Equal(got, strings.Fields(want)) {
		t.Errorf("%s: %q, not %q", what, got, want)
	}
}

func TestVars(t *testing.T) { // P13.2
	for words, want := range map[string]string{
		"+ p":                "",
		"+ p a 1":            "",
		"+ p X":              "X",
		"+ p X Y X":          "X Y",
		"+ p Z a Y 1 Y Z X":  "Z Y X",
		"- p Y X":            "Y X",
		"< B A":              "B A",
		"!= A A":             "A",
		"+ p X1 X10 X X_ X1": "X1 X10 X X_",
	} {
		named(t, words, Vars(flat(words)), want)
	}
	named(t, "nothing", Vars(api.Flat{}), "")
	// Whatever the kind, and the names.
	named(t, "another kind", Vars(api.Flat{Kind: 9, Args: []api.Term{{Var: "b"}, {Var: "A"}, {Var: "b"}}}), "b A")
}

func TestBound(t *testing.T) { // P13.2
	r := ruled("+ p X Y; - q Z; + r W X a; < U V; + s Y X; != T T; + u 1; + v")
	for _, one := range []struct {
		l    []int
		want string
	}{
		{nil, ""},
		{[]int{0}, "X Y"},
		{[]int{2}, "W X"},
		{[]int{0, 2}, "X Y W"},
		{[]int{2, 0}, "W X Y"},
		{[]int{2, 2, 2, 4}, "W X Y"},
		{[]int{4, 0, 2, 4, 2, 0}, "Y X W"},
		{[]int{0, 1, 2, 3, 4, 5, 6, 7}, "X Y W"},
		{[]int{7, 6, 5, 2, 3, 4, 1, 0}, "W X Y"},
		{[]int{1, 3, 5, 6, 7, 4}, "Y X"},
		{[]int{1, 3, 5, 6, 7}, ""},
		{[]int{-1, 8, 2, math.MaxInt, math.MinInt, 4, 2, 64, 0}, "W X Y"},
		{[]int{-1, 8, math.MaxInt, math.MinInt}, ""},
	} {
		named(t, "Bound", Bound(r, one.l), one.want)
	}
	named(t, "of no body", Bound(api.Rule{Head: flat("+ p X")}, []int{0, -1, 1}), "")
	for _, kind := range []uint8{0, 5, 255} {
		named(t, "another kind", Bound(api.Rule{Body: []api.Flat{{Kind: kind, Args: []api.Term{{Var: "X"}}}}}, []int{0}), "")
	}
}

func TestWhatIsHandedInStays(t *testing.T) { // P13.1, P13.2, R4
	r, same := ruled("- bad X; + p X Y; != X me; + q Y Z"), ruled("- bad X; + p X Y; != X me; + q Y Z")
	room := []int{3, 1, 77, 88}
	l := room[:2]
	first, _ := Order(r)
	second, _ := From(r, 3)
	bound, vars := Bound(r, l), Vars(r.Body[1])
	for _, one := range [][]int{first, second} {
		_ = append(one, 5)
		one[0], one[3] = 9, 9
	}
	for _, one := range [][]string{bound, vars} {
		_ = append(one, "V")
		one[0], one[1] = "W", "W"
	}
	if !reflect.DeepEqual(r, same) || !slices.Equal(room, []int{3, 1, 77, 88}) {
		t.Errorf("changed: %v, %v", r, room)
	}
	orders(t, "- bad X; + p X Y; != X me; + q Y Z", 1, 0, 2, 3)
	named(t, "Bound", Bound(r, l), "Y Z X")
	named(t, "Vars", Vars(r.Body[1]), "X Y")
}

func TestTheSameEachTime(t *testing.T) { // P13.1, P13.2, R5
	chance := rand.New(rand.NewSource(5))
	for range 200 {
		r := drawn(chance, 12)
		l, ok := Order(r)
		names := Bound(r, l)
		for range 5 {
			again, too := Order(r)
			if ok != too || !slices.Equal(l, again) || !slices.Equal(names, Bound(r, l)) {
				t.Fatalf("%v: %v, then %v", r, l, again)
			}
		}
	}
}
