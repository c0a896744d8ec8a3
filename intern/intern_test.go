package intern

import (
	"slices"
	"testing"

	"mandate/api"
)

func sym(s string) api.Value { return api.Value{Sym: s} }

func num(n int64) api.Value { return api.Value{Num: n} }

// wrong are values that may not be.
func wrong() []api.Value {
	return []api.Value{sym("X"), sym("not"), {Sym: "a", Num: 1}, sym("abcdefghijklmnopq")}
}

// numbers is a pool of the numbers from 0 on, each by itself.
func numbers(t *testing.T, n int) *Pool {
	t.Helper()
	p := New()
	for i := range n {
		put(t, p, num(int64(i)), i, api.OK)
	}
	return p
}

func put(t *testing.T, p *Pool, v api.Value, want int, errno api.Errno) {
	t.Helper()
	if n, e := p.Put(v); n != want || e != errno {
		t.Errorf("Put(%v): %d, %d", v, n, e)
	}
}

func find(t *testing.T, p *Pool, v api.Value, want int, there bool) {
	t.Helper()
	if n, ok := p.Find(v); n != want || ok != there {
		t.Errorf("Find(%v): %d, %v", v, n, ok)
	}
}

func get(t *testing.T, p *Pool, n int, want api.Value, there bool) {
	t.Helper()
	if v, ok := p.Get(n); v != want || ok != there {
		t.Errorf("Get(%d): %v, %v", n, v, ok)
	}
}

func row(t *testing.T, p *Pool, l []api.Value, want []int, errno api.Errno) {
	t.Helper()
	if got, e := p.Row(l); !slices.Equal(got, want) || e != errno {
		t.Errorf("Row(%v): %v, %d", l, got, e)
	}
}

func values(t *testing.T, p *Pool, l []int, want []api.Value, there bool) {
	t.Helper()
	if got, ok := p.Values(l); !slices.Equal(got, want) || ok != there {
		t.Errorf("Values(%v): %v, %v", l, got, ok)
	}
}

func length(t *testing.T, p *Pool, want int) {
	t.Helper()
	if n := p.Len(); n != want {
		t.Errorf("Len: %d, not %d", n, want)
	}
}

func TestNew(t *testing.T) { // P2.1
	p, q := New(), New()
	length(t, p, 0)
	find(t, p, num(0), 0, false)
	get(t, p, 0, api.Value{}, false)
	put(t, p, sym("a"), 0, api.OK)
	length(t, q, 0)
	find(t, q, sym("a"), 0, false)
}

func TestPut(t *testing.T) { // P2.1
	p := New()
	put(t, p, sym("a"), 0, api.OK)
	put(t, p, num(7), 1, api.OK)
	put(t, p, sym("a"), 0, api.OK)
	put(t, p, api.Value{}, 2, api.OK)
	put(t, p, num(-7), 3, api.OK)
	put(t, p, num(7), 1, api.OK)
	length(t, p, 4)
	find(t, p, sym("a"), 0, true)
	find(t, p, num(-7), 3, true)
	find(t, p, sym("b"), 0, false)
	find(t, p, num(8), 0, false)
	get(t, p, 0, sym("a"), true)
	get(t, p, 1, num(7), true)
	get(t, p, 2, api.Value{}, true)
	for _, n := range []int{-1, 4, -1 << 63, 1<<63 - 1} {
		get(t, p, n, api.Value{}, false)
	}
}

func TestPutWrong(t *testing.T) { // P2.1
	p := numbers(t, 2)
	for _, v := range wrong() {
		put(t, p, v, 0, api.ErrArg)
		find(t, p, v, 0, false)
	}
	length(t, p, 2)
	put(t, p, sym("a"), 2, api.OK)
}

func TestPutFull(t *testing.T) { // P2.1
	p := numbers(t, api.MaxPool)
	last := int64(api.MaxPool - 1)
	length(t, p, api.MaxPool)
	put(t, p, sym("a"), 0, api.ErrFull)
	put(t, p, sym("X"), 0, api.ErrArg)
	put(t, p, num(last), int(last), api.OK)
	put(t, p, num(0), 0, api.OK)
	length(t, p, api.MaxPool)
	find(t, p, sym("a"), 0, false)
	get(t, p, int(last), num(last), true)
	get(t, p, api.MaxPool, api.Value{}, false)
}

func TestRow(t *testing.T) { // P2.2
	p := New()
	row(t, p, nil, nil, api.OK)
	row(t, p, []api.Value{}, nil, api.OK)
	put(t, p, sym("a"), 0, api.OK)
	put(t, p, num(7), 1, api.OK)
	row(t, p, []api.Value{num(7), sym("b"), sym("b")}, []int{1, 2, 2}, api.OK)
	row(t, p, []api.Value{sym("d"), sym("a"), sym("c"), sym("d")}, []int{3, 0, 4, 3}, api.OK)
	length(t, p, 5)
	get(t, p, 3, sym("d"), true)
	get(t, p, 4, sym("c"), true)
}

func TestRowWrong(t *testing.T) { // P2.2
	p := numbers(t, 2)
	for _, v := range wrong() {
		row(t, p, []api.Value{v}, nil, api.ErrArg)
		row(t, p, []api.Value{sym("c"), num(1), v}, nil, api.ErrArg)
		row(t, p, []api.Value{v, sym("c")}, nil, api.ErrArg)
	}
	length(t, p, 2)
	find(t, p, sym("c"), 0, false)
}

func TestRowFull(t *testing.T) { // P2.2
	p := numbers(t, api.MaxPool-2)
	three := []api.Value{sym("a"), num(0), sym("b"), sym("a"), sym("c")}
	row(t, p, three, nil, api.ErrFull)
	row(t, p, append(three, sym("X")), nil, api.ErrArg)
	length(t, p, api.MaxPool-2)
	for _, s := range []string{"a", "b", "c"} {
		find(t, p, sym(s), 0, false)
	}
	get(t, p, api.MaxPool-2, api.Value{}, false)
	row(t, p, []api.Value{sym("b"), num(0), sym("b"), sym("a"), sym("a")}, []int{api.MaxPool - 2, 0, api.MaxPool - 2, api.MaxPool - 1, api.MaxPool - 1}, api.OK)
	row(t, p, []api.Value{sym("a"), num(5), sym("b")}, []int{api.MaxPool - 1, 5, api.MaxPool - 2}, api.OK)
	row(t, p, []api.Value{sym("a"), sym("c")}, nil, api.ErrFull)
	row(t, p, nil, nil, api.OK)
	length(t, p, api.MaxPool)
}

func TestRowOfMoreThanMay(t *testing.T) { // P2.2
	p := New()
	l := make([]api.Value, api.MaxPool+1)
	for i := range l {
		l[i] = num(int64(i))
	}
	row(t, p, l, nil, api.ErrFull)
	length(t, p, 0)
	l[api.MaxPool] = num(0)
	if got, e := p.Row(l); e != api.OK || len(got) != api.MaxPool+1 || got[api.MaxPool] != 0 || got[api.MaxPool-1] != api.MaxPool-1 {
		t.Errorf("Row of as many as may be: %d numbers, %d", len(got), e)
	}
}

func TestValues(t *testing.T) { // P2.2
	p := New()
	values(t, p, nil, nil, true)
	values(t, p, []int{0}, nil, false)
	row(t, p, []api.Value{sym("a"), num(7), sym("b")}, []int{0, 1, 2}, api.OK)
	values(t, p, []int{}, nil, true)
	values(t, p, []int{2, 0, 1, 2}, []api.Value{sym("b"), sym("a"), num(7), sym("b")}, true)
	values(t, p, []int{0, 3}, nil, false)
	values(t, p, []int{0, -1, 1}, nil, false)
}

func TestClear(t *testing.T) { // P2.2
	p := numbers(t, api.MaxPool)
	p.Clear()
	length(t, p, 0)
	find(t, p, num(3), 0, false)
	get(t, p, 0, api.Value{}, false)
	values(t, p, []int{0}, nil, false)
	put(t, p, sym("b"), 0, api.OK)
	put(t, p, num(3), 1, api.OK)
	get(t, p, 0, sym("b"), true)
	p.Clear()
	p.Clear()
	row(t, p, []api.Value{num(9), sym("b")}, []int{0, 1}, api.OK)
}

func TestNilPool(t *testing.T) { // P2.1, P2.2
	var p *Pool
	p.Clear()
	length(t, p, 0)
	put(t, p, sym("a"), 0, api.ErrFull)
	put(t, p, sym("X"), 0, api.ErrArg)
	find(t, p, sym("a"), 0, false)
	get(t, p, 0, api.Value{}, false)
	get(t, p, -1, api.Value{}, false)
	row(t, p, nil, nil, api.OK)
	row(t, p, []api.Value{sym("a")}, nil, api.ErrFull)
	row(t, p, []api.Value{sym("a"), sym("X")}, nil, api.ErrArg)
	values(t, p, nil, nil, true)
	values(t, p, []int{0}, nil, false)
}

func TestNothingIsShared(t *testing.T) { // P2.2, R4
	p := New()
	list := []api.Value{sym("a"), num(7), sym("c")}
	got, _ := p.Row(list[:2])
	got[0] = 5
	if list[2] != sym("c") {
		t.Errorf("behind the list: %v", list[2])
	}
	list[0] = sym("z")
	find(t, p, sym("a"), 0, true)
	get(t, p, 0, sym("a"), true)
	asked := []int{1, 0}
	told, _ := p.Values(asked)
	told[0], asked[1] = sym("z"), 1
	get(t, p, 1, num(7), true)
	values(t, p, []int{0, 1}, []api.Value{sym("a"), num(7)}, true)
}
