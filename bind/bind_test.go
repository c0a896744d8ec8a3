package bind

import (
	"math/rand"
	"reflect"
	"slices"
	"strings"
	"testing"

	"mandate/api"
	"mandate/value"
)

// val is a value that is spelt; a text that spells none is a symbol all the same.
func val(s string) api.Value {
	v, ok := value.Read(s)
	if !ok {
		v.Sym = s
	}
	return v
}

// flat is a literal of terms that are spelt: those that begin with A to Z are variables.
func flat(kind uint8, pred string, terms ...string) api.Flat {
	f := api.Flat{Kind: kind, Pred: pred}
	for _, s := range terms {
		if s != "" && 'A' <= s[0] && s[0] <= 'Z' {
			f.Args = append(f.Args, api.Term{Var: s})
		} else {
			f.Args = append(f.Args, api.Term{Val: val(s)})
		}
	}
	return f
}

func tuple(pred string, values ...string) api.Tuple {
	t := api.Tuple{Pred: pred}
	for _, s := range values {
		t.Args = append(t.Args, val(s))
	}
	return t
}

// binds are variables, each with its value behind it.
func binds(words ...string) []api.Bind {
	var l []api.Bind
	for i := 0; i < len(words); i += 2 {
		l = append(l, api.Bind{Var: words[i], Val: val(words[i+1])})
	}
	return l
}

func same(a, b api.Tuple) bool {
	return value.Order(a, b) == 0
}

func matched(t *testing.T, f api.Flat, x api.Tuple, b, want []api.Bind) {
	t.Helper()
	if got, ok := Match(f, x, b); !ok || !slices.Equal(got, want) {
		t.Errorf("Match(%v, %v, %v): %v, %v", f, x, b, got, ok)
	}
}

func TestMatch(t *testing.T) { // P10.1
	for _, kind := range []uint8{api.LPos, api.LNot} {
		matched(t, flat(kind, "p", "X", "X", "Y"), tuple("p", "a", "a", "1"), nil, binds("X", "a", "Y", "1"))
		matched(t, flat(kind, "p", "X", "X", "Y"), tuple("p", "a", "a", "1"), binds("X", "a", "Y", "1"), binds("X", "a", "Y", "1"))
		matched(t, flat(kind, "p", "Y", "X"), tuple("p", "a", "a"), nil, binds("Y", "a", "X", "a"))
		matched(t, flat(kind, "p", "ann", "-7", "0"), tuple("p", "ann", "-7", "0"), nil, nil)
		matched(t, flat(kind, "p", "ann", "-7"), tuple("p", "ann", "-7"), binds("X", "a"), binds("X", "a"))
		matched(t, flat(kind, "p", "ann", "X"), tuple("p", "ann", "a"), binds("Y", "b", "Z", "c"), binds("Y", "b", "Z", "c", "X", "a"))
		matched(t, flat(kind, "p", "X", "Y", "X"), tuple("p", "0", "b", "0"), binds("Y", "b"), binds("Y", "b", "X", "0"))
		matched(t, flat(kind, "p", "X", "Z", "Y", "Z"), tuple("p", "a", "1", "2", "1"), binds("Y", "2"), binds("Y", "2", "X", "a", "Z", "1"))
		matched(t, flat(kind, "p"), tuple("p"), nil, nil)
		matched(t, flat(kind, ""), tuple(""), binds("X", "a"), binds("X", "a"))
	}
}

func TestMatchOfTheFirstOfAName(t *testing.T) { // P10.1
	twice := binds("X", "a", "Y", "b", "X", "c")
	f := flat(api.LPos, "p", "X", "Z")
	matched(t, f, tuple("p", "a", "d"), twice, binds("X", "a", "Y", "b", "X", "c", "Z", "d"))
	if got, ok := Match(f, tuple("p", "c", "d"), twice); ok || len(got) != 0 {
		t.Errorf("Match of the second one's value: %v, %v", got, ok)
	}
}

func TestMatchOfOddValues(t *testing.T) { // P10.1: neither f nor t need be such as may be
	both := api.Value{Sym: "a", Num: 7}
	odd := api.Tuple{Pred: "P q", Args: []api.Value{both, both, {}, val("x y")}}
	f := api.Flat{Kind: api.LPos, Pred: "P q", Args: []api.Term{{Var: "x 1"}, {Val: both}, {Val: api.Value{}}, {Var: "Y", Val: both}}}
	matched(t, f, odd, nil, []api.Bind{{Var: "x 1", Val: both}, {Var: "Y", Val: val("x y")}})
	for _, other := range []api.Value{{Sym: "a"}, {Num: 7}, {Sym: "a", Num: 8}, {Sym: "b", Num: 7}} {
		f.Args[1].Val = other
		if got, ok := Match(f, odd, nil); ok || len(got) != 0 {
			t.Errorf("Match with %v: %v, %v", other, got, ok)
		}
	}
	// No variable has the empty name: a binding of it binds nothing.
	matched(t, flat(api.LPos, "p", "a", "0"), tuple("p", "a", "0"), binds("", "b"), binds("", "b"))
}

func TestMatchNone(t *testing.T) { // P10.1
	for _, c := range []struct {
		f api.Flat
		x api.Tuple
		b []api.Bind
	}{
		{flat(api.LPos, "p", "X", "X", "Y"), tuple("p", "a", "b", "1"), nil},
		{flat(api.LPos, "p", "X"), tuple("p", "a"), binds("X", "b")},
		{flat(api.LNot, "p", "Y", "X"), tuple("p", "a", "a"), binds("X", "b")},
		{flat(api.LPos, "p", "X"), tuple("q", "a"), nil},
		{flat(api.LPos, "p", "X"), tuple("pp", "a"), nil},
		{flat(api.LPos, "p", "X"), tuple("p", "a", "b"), nil},
		{flat(api.LPos, "p", "X"), tuple("p"), nil},
		{flat(api.LPos, "p"), tuple("p", "a"), nil},
		{flat(api.LPos, "p", "X", "Y"), tuple("p", "a"), binds("X", "a", "Y", "b")},
		{flat(api.LPos, "p", "a"), tuple("p", "b"), nil},
		{flat(api.LPos, "p", "0"), tuple("p", "a"), nil},
		{flat(api.LPos, "p", "a"), tuple("p", "0"), nil},
		{flat(api.LPos, "p", "7"), tuple("p", "-7"), nil},
		{flat(api.LPos, "p", "a", "X", "c"), tuple("p", "a", "b", "d"), nil},
		{flat(api.LPos, "p", "X", "Y", "Y"), tuple("p", "a", "a", "b"), binds("Z", "c")},
		{flat(0, "p", "X"), tuple("p", "a"), nil},
		{flat(api.LLess, "p", "X", "Y"), tuple("p", "a", "b"), nil},
		{flat(api.LUnlike, "p", "X", "Y"), tuple("p", "a", "b"), nil},
		{flat(api.LLess, "", "1", "2"), tuple("", "1", "2"), nil},
		{flat(5, "p", "X"), tuple("p", "a"), binds("X", "a")},
		{flat(255, "p"), tuple("p"), nil},
		{api.Flat{}, api.Tuple{}, nil},
	} {
		if got, ok := Match(c.f, c.x, c.b); ok || len(got) != 0 {
			t.Errorf("Match(%v, %v, %v): %v, %v", c.f, c.x, c.b, got, ok)
		}
	}
}

func TestFill(t *testing.T) { // P10.2
	b := binds("X", "a", "Y", "-1", "X", "b", "Z", "0")
	for _, kind := range []uint8{api.LPos, api.LNot} {
		for _, c := range []struct {
			f    api.Flat
			want api.Tuple
		}{
			{flat(kind, "p", "ann", "X"), tuple("p", "ann", "a")},
			{flat(kind, "q", "X", "Y", "X", "Z", "7"), tuple("q", "a", "-1", "a", "0", "7")},
			{flat(kind, "p", "ann"), tuple("p", "ann")},
			{flat(kind, "p"), tuple("p")},
			{flat(kind, "", "Z", "0"), tuple("", "0", "0")},
		} {
			if x, ok := Fill(c.f, b); !ok || !same(x, c.want) {
				t.Errorf("Fill(%v): %v, %v", c.f, x, ok)
			}
		}
		if x, ok := Fill(flat(kind, "p", "a", "7"), nil); !ok || !same(x, tuple("p", "a", "7")) {
			t.Errorf("Fill without bindings: %v, %v", x, ok)
		}
	}
}

func TestFillNone(t *testing.T) { // P10.2
	b := binds("X", "a", "", "b")
	for _, f := range []api.Flat{
		flat(api.LPos, "p", "Y"), flat(api.LNot, "p", "X", "Y"), flat(api.LPos, "p", "Y", "X"), flat(api.LPos, "p", "a", "X", "XX"),
		flat(0, "p", "X"), flat(api.LLess, "", "X", "X"), flat(api.LUnlike, "p", "X", "a"), flat(5, "p", "X"), {},
	} {
		if x, ok := Fill(f, b); ok || !reflect.DeepEqual(x, api.Tuple{}) {
			t.Errorf("Fill(%v): %v, %v", f, x, ok)
		}
	}
	if x, ok := Fill(flat(api.LPos, "p", "X"), nil); ok || !reflect.DeepEqual(x, api.Tuple{}) {
		t.Errorf("Fill without bindings: %v, %v", x, ok)
	}
}

func TestHolds(t *testing.T) { // P10.2
	rising := []api.Value{val("-9223372036854775808"), val("-1"), val("0"), val("2"), val("10"), val("9223372036854775807"), val("a"), val("a0"), val("aa"), val("b")}
	for i, v := range rising {
		for j, w := range rising {
			b := []api.Bind{{Var: "X", Val: v}, {Var: "Y", Val: w}, {Var: "X", Val: w}, {Var: "Y", Val: v}}
			x, y := api.Term{Var: "X"}, api.Term{Var: "Y"}
			for _, args := range [][]api.Term{{x, y}, {{Val: v}, y}, {x, {Val: w}}, {{Val: v}, {Val: w}}} {
				if less, ok := Holds(api.Flat{Kind: api.LLess, Args: args}, b); !ok || less != (i < j) {
					t.Errorf("%v < %v: %v, %v", v, w, less, ok)
				}
				if unlike, ok := Holds(api.Flat{Kind: api.LUnlike, Args: args}, b); !ok || unlike != (i != j) {
					t.Errorf("%v != %v: %v, %v", v, w, unlike, ok)
				}
			}
		}
	}
	if less, ok := Holds(flat(api.LLess, "", "X", "3"), binds("X", "2")); !ok || !less {
		t.Errorf("X < 3 with X 2: %v, %v", less, ok)
	}
	if unlike, ok := Holds(flat(api.LUnlike, "", "X", "X"), binds("X", "2")); !ok || unlike {
		t.Errorf("X != X: %v, %v", unlike, ok)
	}
}

func TestHoldsNone(t *testing.T) { // P10.2
	b := binds("X", "1", "", "2")
	for _, f := range []api.Flat{
		flat(api.LPos, "p", "1", "2"), flat(api.LNot, "p", "X", "2"), flat(0, "", "1", "2"), flat(5, "", "1", "2"), {},
		flat(api.LLess, ""), flat(api.LLess, "", "1"), flat(api.LLess, "", "X", "2", "3"), flat(api.LUnlike, "", "1", "2", "3"), flat(api.LUnlike, "", "X"),
		flat(api.LLess, "", "Y", "2"), flat(api.LLess, "", "1", "Y"), flat(api.LUnlike, "", "X", "Y"), flat(api.LUnlike, "", "Y", "X"), flat(api.LUnlike, "", "Y", "Z"),
	} {
		if is, ok := Holds(f, b); is || ok {
			t.Errorf("Holds(%v): %v, %v", f, is, ok)
		}
	}
	if is, ok := Holds(flat(api.LLess, "", "X", "2"), nil); is || ok {
		t.Errorf("Holds without bindings: %v, %v", is, ok)
	}
}

func TestSelect(t *testing.T) { // P10.3
	all := []api.Tuple{
		tuple("q", "b", "1"), tuple("p", "b", "2"), tuple("p", "a", "1"), tuple("p", "b", "b"), tuple("p", "b"), tuple("p", "b", "2"), tuple("p", "a", "1", "1"), tuple("p"), {},
	}
	for _, c := range []struct {
		f    api.Flat
		want []int
	}{
		{flat(api.LPos, "p", "X", "Y"), []int{1, 2, 3, 5}},
		{flat(api.LNot, "p", "X", "Y"), []int{1, 2, 3, 5}},
		{flat(api.LPos, "p", "X", "X"), []int{3}},
		{flat(api.LPos, "p", "b", "X"), []int{1, 3, 5}},
		{flat(api.LPos, "p", "X", "1"), []int{2}},
		{flat(api.LPos, "p", "b", "2"), []int{1, 5}},
		{flat(api.LPos, "q", "X", "Y"), []int{0}},
		{flat(api.LPos, "p", "X"), []int{4}},
		{flat(api.LPos, "p", "a", "X", "X"), []int{6}},
		{flat(api.LPos, "p"), []int{7}},
		{flat(api.LPos, ""), []int{8}},
		{flat(api.LPos, "p", "c", "X"), nil},
		{flat(api.LPos, "r", "X", "Y"), nil},
		{flat(api.LLess, "p", "X", "Y"), nil},
		{flat(api.LUnlike, "", "1", "2"), nil},
		{api.Flat{}, nil},
	} {
		var want []api.Tuple
		for _, at := range c.want {
			want = append(want, all[at])
		}
		if got := Select(c.f, all); !slices.EqualFunc(got, want, same) {
			t.Errorf("Select(%v): %v, not %v", c.f, got, want)
		}
		if got := Select(c.f, nil); len(got) != 0 {
			t.Errorf("Select(%v) of none: %v", c.f, got)
		}
	}
}

// foretold is what Match answers of an LPos or LNot: each variable is first given the one value that it can have, and all arguments are looked at behind that.
func foretold(f api.Flat, x api.Tuple, b []api.Bind) ([]api.Bind, bool) {
	values, all := map[string]api.Value{}, slices.Clone(b)
	for i := len(b) - 1; i >= 0; i-- {
		values[b[i].Var] = b[i].Val
	}
	if f.Pred != x.Pred || len(f.Args) != len(x.Args) {
		return nil, false
	}
	for i, term := range f.Args {
		if _, is := values[term.Var]; term.Var != "" && !is {
			values[term.Var] = x.Args[i]
			all = append(all, api.Bind{Var: term.Var, Val: x.Args[i]})
		}
	}
	for i, term := range f.Args {
		if term.Var != "" && values[term.Var] != x.Args[i] || term.Var == "" && term.Val != x.Args[i] {
			return nil, false
		}
	}
	return all, true
}

func TestManyMatches(t *testing.T) { // P10.1, P10.2, P10.3
	chance, made := rand.New(rand.NewSource(9)), 0
	some := func(words string, n int) []string {
		all := strings.Fields(words)
		var l []string
		for range n {
			l = append(l, all[chance.Intn(len(all))])
		}
		return l
	}
	for range 200000 {
		n := chance.Intn(api.MaxArity + 2)
		f := flat(uint8(1+chance.Intn(2)), some("p p p q", 1)[0], some("X X Y Y Z a b 1", n)...)
		x := tuple("p", some("a a b 1", max(0, n-chance.Intn(9)/8))...)
		var b []api.Bind
		for _, name := range some("X Y Z W", chance.Intn(3)) {
			b = append(b, binds(name, some("a b 1", 1)[0])...)
		}
		want, is := foretold(f, x, b)
		got, ok := Match(f, x, b)
		if ok != is || !slices.Equal(got, want) {
			t.Fatalf("Match(%v, %v, %v): %v, %v, not %v, %v", f, x, b, got, ok, want, is)
		}
		if filled, all := Fill(f, got); ok && (!all || !same(filled, x)) {
			t.Fatalf("Fill(%v, %v): %v, %v, not %v", f, got, filled, all, x)
		}
		if _, alone := foretold(f, x, nil); alone != (len(Select(f, []api.Tuple{x})) == 1) {
			t.Fatalf("Select(%v) of %v: not %v", f, x, alone)
		}
		if ok {
			made++
		}
	}
	if made < 10000 {
		t.Fatalf("no more than %d matches", made)
	}
}

func TestBindingsAreTheirOwn(t *testing.T) { // R4
	room := binds("X", "a", "Y", "b", "Z", "c")
	b := room[:1]
	f, x := flat(api.LPos, "p", "X", "W"), tuple("p", "a", "d")
	for _, none := range []api.Tuple{tuple("p", "b", "d"), tuple("q", "a", "d")} {
		Match(f, none, b)
	}
	first, _ := Match(f, x, b)
	second, _ := Match(f, x, b)
	bound, _ := Match(flat(api.LPos, "p", "X"), tuple("p", "a"), b)
	first[0].Val, first[1].Val, bound[0].Val = val("7"), val("7"), val("7")
	_, _ = append(first, api.Bind{Var: "V"}), append(bound, api.Bind{Var: "V"})
	if !slices.Equal(room, binds("X", "a", "Y", "b", "Z", "c")) || !slices.Equal(second, binds("X", "a", "W", "d")) {
		t.Errorf("changed: %v, %v", room, second)
	}
	if !reflect.DeepEqual(f, flat(api.LPos, "p", "X", "W")) || !same(x, tuple("p", "a", "d")) {
		t.Errorf("changed: %v, %v", f, x)
	}
}

func TestTuplesAreTheirOwn(t *testing.T) { // R4
	f, l := flat(api.LPos, "p", "X", "a"), []api.Tuple{tuple("p", "b", "a"), tuple("q", "b", "a"), tuple("p", "c", "a")}
	b := binds("X", "b")
	filled, _ := Fill(f, b)
	first := Select(f, l)
	second := Select(f, l)
	filled.Args[0], filled.Args[1] = val("7"), val("7")
	first[0].Args[0], first[1] = val("7"), api.Tuple{}
	_ = append(first[0].Args, val("8"))
	if !slices.EqualFunc(l, []api.Tuple{tuple("p", "b", "a"), tuple("q", "b", "a"), tuple("p", "c", "a")}, same) {
		t.Errorf("changed: %v", l)
	}
	if !slices.EqualFunc(second, []api.Tuple{l[0], l[2]}, same) {
		t.Errorf("the second answer: %v", second)
	}
	if !reflect.DeepEqual(f, flat(api.LPos, "p", "X", "a")) || !slices.Equal(b, binds("X", "b")) {
		t.Errorf("changed: %v, %v", f, b)
	}
}
