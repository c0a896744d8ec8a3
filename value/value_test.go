package value

import (
	"math"
	"slices"
	"strings"
	"testing"

	"mandate/api"
)

func sym(s string) api.Value { return api.Value{Sym: s} }

func num(n int64) api.Value { return api.Value{Num: n} }

func tuple(pred string, args ...api.Value) api.Tuple {
	return api.Tuple{Pred: pred, Args: args}
}

func TestNameBytes(t *testing.T) { // P1.1
	first := "abcdefghijklmnopqrstuvwxyz"
	other := first + "0123456789_"
	for b := range 256 {
		c := string([]byte{byte(b)})
		if got, want := Name(c), strings.Contains(first, c); got != want {
			t.Errorf("Name(%q): %v", c, got)
		}
		for _, s := range []string{"p" + c, "p" + c + "q"} {
			if got, want := Name(s), strings.Contains(other, c); got != want {
				t.Errorf("Name(%q): %v", s, got)
			}
		}
	}
}

func TestNameTexts(t *testing.T) { // P1.1
	names := []string{"z", "no", "nots", "not_", "say", "says1", "nota", "a_", "x9", strings.Repeat("a", api.MaxName)}
	for _, s := range names {
		if !Name(s) {
			t.Errorf("Name(%q): false", s)
		}
	}
	others := []string{"", "not", "says", "_", "_a", "9a", "-1", "aB", "Not", "a b", " a", "a ", "a\n", "é", "aé", "a\x00", strings.Repeat("a", api.MaxName+1), strings.Repeat("a", 1<<16)}
	for _, s := range others {
		if Name(s) {
			t.Errorf("Name(%q): true", s)
		}
	}
}

func TestGood(t *testing.T) { // P1.1
	for _, v := range []api.Value{{}, num(5), num(math.MinInt64), num(math.MaxInt64), sym("a"), sym("b_2")} {
		if !Good(v) {
			t.Errorf("Good(%v): false", v)
		}
	}
	for _, v := range []api.Value{{Sym: "a", Num: 1}, {Sym: "a", Num: -1}, sym("not"), sym("says"), sym("A"), sym("7"), sym(" "), sym(strings.Repeat("a", api.MaxName+1))} {
		if Good(v) {
			t.Errorf("Good(%v): true", v)
		}
	}
}

func TestRight(t *testing.T) { // P1.1
	ann := sym("ann")
	right := []api.Tuple{
		tuple("p", ann),
		tuple("p", ann, num(0)),
		tuple("p_1", ann, num(-1), sym("a"), num(2), sym("b")),
	}
	for _, x := range right {
		if !Right(x) {
			t.Errorf("Right(%v): false", x)
		}
	}
	wrong := []api.Tuple{
		{},
		tuple("p"),
		tuple("", ann),
		tuple("not", ann),
		tuple("P", ann),
		tuple(strings.Repeat("p", api.MaxName+1), ann),
		tuple("p", num(1)),
		tuple("p", num(1), ann),
		tuple("p", sym("says")),
		tuple("p", api.Value{Sym: "ann", Num: 1}),
		tuple("p", ann, sym("X")),
		tuple("p", ann, ann, ann, ann, api.Value{Sym: "a", Num: 1}),
		tuple("p", ann, ann, ann, ann, ann, ann),
	}
	for _, x := range wrong {
		if Right(x) {
			t.Errorf("Right(%v): true", x)
		}
	}
}

// rising holds a list that is in order against itself, pair by pair.
func rising[T any](t *testing.T, l []T, order func(a, b T) int) {
	t.Helper()
	for i := range l {
		for j := range l {
			want := 0
			if i < j {
				want = -1
			} else if i > j {
				want = 1
			}
			if got := order(l[i], l[j]); got != want {
				t.Errorf("of the ones at %d and %d: %d", i, j, got)
			}
		}
	}
}

func TestCompare(t *testing.T) { // P1.2
	rising(t, []api.Value{
		num(math.MinInt64), num(-1), num(0), num(1), num(10), num(math.MaxInt64),
		{Sym: " ", Num: 5}, sym("7"), sym("Z"),
		{Sym: "a", Num: math.MinInt64}, {Sym: "a", Num: -1}, sym("a"), {Sym: "a", Num: 1},
		sym("a0"), sym("a_"), sym("aa"), sym("b"), sym("not"), sym("é"), sym("\xff"),
	}, Compare)
}

func TestOrder(t *testing.T) { // P1.2
	a, b := sym("a"), sym("b")
	rising(t, []api.Tuple{
		{},
		tuple("", a),
		tuple("P", b),
		tuple("p"),
		tuple("p", num(3)),
		tuple("p", a),
		tuple("p", b),
		tuple("p", num(1), b),
		tuple("p", a, num(-1)),
		tuple("p", a, a),
		tuple("p", a, b),
		tuple("p", b, num(9)),
		tuple("p", a, a, a),
		tuple("p", a, a, b),
		tuple("p", a, b, a),
		tuple("p", a, a, a, a, a, a),
		tuple("p0"),
		tuple("q", a),
	}, Order)
	if n := Order(tuple("p", []api.Value{}...), api.Tuple{Pred: "p"}); n != 0 {
		t.Errorf("of no arguments and none: %d", n)
	}
}

func same(a, b []api.Tuple) bool {
	return slices.EqualFunc(a, b, func(x, y api.Tuple) bool { return Order(x, y) == 0 })
}

func TestSort(t *testing.T) { // P1.2
	a, b := sym("a"), sym("b")
	cases := []struct{ list, want []api.Tuple }{
		{nil, nil},
		{[]api.Tuple{}, nil},
		{[]api.Tuple{{}, {}}, []api.Tuple{{}}},
		{[]api.Tuple{tuple("p", b), tuple("p", a), tuple("p", b)}, []api.Tuple{tuple("p", a), tuple("p", b)}},
		{[]api.Tuple{tuple("q", a), tuple("p", a, b), tuple("p", b), tuple("p", num(2), a)}, []api.Tuple{tuple("p", b), tuple("p", num(2), a), tuple("p", a, b), tuple("q", a)}},
		{[]api.Tuple{tuple("P", a), tuple("not"), tuple("P", a)}, []api.Tuple{tuple("P", a), tuple("not")}},
	}
	for _, c := range cases {
		if got := Sort(c.list); !same(got, c.want) {
			t.Errorf("Sort(%v): %v", c.list, got)
		}
	}
}

func TestSortMany(t *testing.T) { // P1.2
	var list []api.Tuple
	for i := range 1000 {
		list = append(list, tuple("p", sym("a"), num(int64(i*617%250))))
	}
	got := Sort(list)
	if len(got) != 250 {
		t.Fatalf("%d tuples", len(got))
	}
	for i, x := range got {
		if x.Args[1] != num(int64(i)) {
			t.Fatalf("at %d: %v", i, x)
		}
	}
}

func TestSortLeavesItsArgument(t *testing.T) { // P1.2, R4
	shared := []api.Value{sym("b"), num(1), num(99)}
	list := []api.Tuple{tuple("q", shared[:1]...), tuple("p", shared[:2]...), tuple("z")}
	got := Sort(list[:2])
	got[0].Args[0], got[1].Args[0] = sym("x"), sym("y")
	_ = append(got[0].Args, num(5))
	_ = append(got, tuple("n"))
	if !slices.Equal(shared, []api.Value{sym("b"), num(1), num(99)}) {
		t.Errorf("arguments: %v", shared)
	}
	if list[0].Pred != "q" || list[1].Pred != "p" || list[2].Pred != "z" {
		t.Errorf("list: %v", list)
	}
	if got[0].Args[0] != sym("x") || got[1].Args[0] != sym("y") {
		t.Errorf("answer: %v", got)
	}
}

func TestText(t *testing.T) { // P1.3
	for want, v := range map[string]api.Value{
		"0":                    {},
		"10":                   num(10),
		"-7":                   num(-7),
		"9223372036854775807":  num(math.MaxInt64),
		"-9223372036854775808": num(math.MinInt64),
		"a":                    sym("a"),
		"b_2":                  sym("b_2"),
	} {
		if s, ok := Text(v); !ok || s != want {
			t.Errorf("Text(%v): %q, %v", v, s, ok)
		}
		if u, ok := Read(want); !ok || u != v {
			t.Errorf("Read(%q): %v, %v", want, u, ok)
		}
	}
	for _, v := range []api.Value{{Sym: "a", Num: 1}, sym("not"), sym("says"), sym("A"), sym("7"), sym(strings.Repeat("a", api.MaxName+1))} {
		if s, ok := Text(v); ok || s != "" {
			t.Errorf("Text(%v): %q, %v", v, s, ok)
		}
	}
}

func TestReadNone(t *testing.T) { // P1.3
	for _, s := range []string{
		"", "-", "+", "+1", "-0", "+0", "00", "007", "-07", "--1", "1-", "1.0", "1e3", "0x1", "1_0", "_1", " 1", "1 ", "1\n", "１",
		"9223372036854775808", "-9223372036854775809", "18446744073709551616", strings.Repeat("9", 1<<12),
		"not", "says", "A", "X1", "a b", "a-b", "_a", "1a", "é", strings.Repeat("a", api.MaxName+1),
	} {
		if v, ok := Read(s); ok || v != (api.Value{}) {
			t.Errorf("Read(%q): %v, %v", s, v, ok)
		}
	}
}
