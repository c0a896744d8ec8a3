package poset

import (
	"math"
	"math/bits"
	"slices"
	"testing"

	"mandate/api"
)

// strange are numbers that are labels of no order.
func strange() []int {
	return []int{-1, -64, math.MinInt, api.MaxLabels, api.MaxLabels + 1, 1 << 32, math.MaxInt}
}

// is tells by the words of the document whether a list is an order.
func is(up []uint64) bool {
	n := len(up)
	at := func(a, b int) bool { return up[a]>>b&1 == 1 }
	for a := range n {
		if !at(a, a) || bits.Len64(up[a]) > n {
			return false
		}
		for b := range n {
			if a != b && at(a, b) && at(b, a) {
				return false
			}
			for c := range n {
				if at(a, b) && at(b, c) && !at(a, c) {
					return false
				}
			}
		}
	}
	return n >= 1 && n <= 64
}

// lists tells all lists of n masks of n bits.
func lists(n int) [][]uint64 {
	var l [][]uint64
	for x := range uint64(1) << (n * n) {
		up := make([]uint64, n)
		for a := range n {
			up[a] = x >> (a * n) & (1<<n - 1)
		}
		l = append(l, up)
	}
	return l
}

// orders tells all orders of n labels.
func orders(n int) [][]uint64 {
	return slices.DeleteFunc(lists(n), func(up []uint64) bool { return !is(up) })
}

// some are orders of all kinds: the small ones, and three of 64 labels: a row, each by itself, and sets of six things by what they hold.
func some(t *testing.T) [][]uint64 {
	t.Helper()
	l := slices.Concat(orders(1), orders(2), orders(3), orders(4))
	var row, sets [][2]int
	for a := range 64 {
		if a < 63 {
			row = append(row, [2]int{63 - a, 62 - a})
		}
		for thing := range 6 {
			sets = append(sets, [2]int{a, a | 1<<thing})
		}
	}
	for _, pairs := range [][][2]int{row, nil, sets} {
		l = append(l, built(t, 64, pairs))
	}
	return l
}

func built(t *testing.T, n int, pairs [][2]int) []uint64 {
	t.Helper()
	up, e := Build(n, pairs)
	if e != api.OK || len(up) != n {
		t.Fatalf("Build(%d, %v): %v, %d", n, pairs, up, e)
	}
	return up
}

func refused(t *testing.T, n int, pairs [][2]int, want api.Errno) {
	t.Helper()
	if up, e := Build(n, pairs); e != want || len(up) != 0 {
		t.Errorf("Build(%d, %v): %v, %d", n, pairs, up, e)
	}
}

func TestBuild(t *testing.T) { // P4.1
	cases := []struct {
		n     int
		pairs [][2]int
		want  []uint64
	}{
		{1, nil, []uint64{1}},
		{1, [][2]int{{0, 0}}, []uint64{1}},
		{3, nil, []uint64{1, 2, 4}},
		{3, [][2]int{{0, 1}, {1, 2}}, []uint64{7, 6, 4}},
		{3, [][2]int{{1, 2}, {0, 1}, {0, 1}, {2, 2}}, []uint64{7, 6, 4}},
		{3, [][2]int{{2, 1}, {1, 0}}, []uint64{1, 3, 7}},
		{4, [][2]int{{3, 0}, {2, 1}, {0, 2}}, []uint64{7, 2, 6, 15}},
		{4, [][2]int{{0, 1}, {0, 2}, {1, 3}, {2, 3}}, []uint64{15, 10, 12, 8}},
	}
	for _, c := range cases {
		if up, e := Build(c.n, c.pairs); e != api.OK || !slices.Equal(up, c.want) {
			t.Errorf("Build(%d, %v): %v, %d", c.n, c.pairs, up, e)
		}
	}
}

func TestBuildRefuses(t *testing.T) { // P4.1
	refused(t, 2, [][2]int{{0, 1}, {1, 0}}, api.ErrOrder)
	refused(t, 4, [][2]int{{3, 1}, {1, 2}, {0, 3}, {2, 3}}, api.ErrOrder)
	for _, n := range []int{0, -1, math.MinInt, api.MaxLabels + 1, math.MaxInt} {
		refused(t, n, nil, api.ErrArg)
		refused(t, n, [][2]int{{0, 1}, {1, 0}}, api.ErrArg)
	}
	for _, n := range []int{1, 2, 63, 64} {
		for _, a := range append(strange(), n) {
			refused(t, n, [][2]int{{a, 0}}, api.ErrArg)
			refused(t, n, [][2]int{{0, 0}, {0, a}}, api.ErrArg)
			refused(t, n, [][2]int{{a, a}}, api.ErrArg)
		}
	}
	refused(t, 2, [][2]int{{0, 1}, {1, 0}, {0, 2}}, api.ErrArg)
}

// least tells what all orders have of which the pairs of a list are part; false, if there is none.
func least(all [][]uint64, list []uint64) ([]uint64, bool) {
	var up []uint64
	for _, o := range all {
		if slices.ContainsFunc(indexes(list), func(a int) bool { return list[a]&^o[a] != 0 }) {
			continue
		}
		if up == nil {
			up = slices.Clone(o)
		}
		for a := range up {
			up[a] &= o[a]
		}
	}
	return up, up != nil
}

func indexes(list []uint64) []int {
	var l []int
	for a := range list {
		l = append(l, a)
	}
	return l
}

func TestBuildIsLeast(t *testing.T) { // P4.1
	for n := 1; n <= 4; n++ {
		all := orders(n)
		for i, list := range lists(n) {
			if n == 4 && i%7 != 0 {
				continue
			}
			var pairs [][2]int
			for a := range n {
				for b := range n {
					if list[a]>>b&1 == 1 {
						pairs = append(pairs, [2]int{a, b})
					}
				}
			}
			want, ok := least(all, list)
			if !ok {
				refused(t, n, pairs, api.ErrOrder)
			} else if up := built(t, n, pairs); !slices.Equal(up, want) {
				t.Errorf("Build(%d, %v): %v", n, pairs, up)
			}
		}
	}
}

func TestBuildOfAsManyAsMayBe(t *testing.T) { // P4.1
	var pairs [][2]int
	for a := range 63 {
		pairs = append(pairs, [2]int{a, a + 1})
	}
	for a, mask := range built(t, 64, pairs) {
		if mask != ^uint64(0)<<a {
			t.Errorf("above %d: %x", a, mask)
		}
	}
	refused(t, 64, append(pairs, [2]int{63, 0}), api.ErrOrder)
	refused(t, 64, append(pairs, [2]int{63, 62}), api.ErrOrder)
	refused(t, 63, pairs, api.ErrArg)
	slices.Reverse(pairs)
	if up := built(t, 64, pairs); up[0] != ^uint64(0) {
		t.Errorf("above 0: %x", up[0])
	}
}

func TestBuildLeavesItsArgument(t *testing.T) { // P4.1, R4
	pairs := [][2]int{{1, 2}, {0, 1}, {7, 7}}
	up := built(t, 3, pairs[:2])
	up[0] = 0
	if !slices.Equal(pairs, [][2]int{{1, 2}, {0, 1}, {7, 7}}) {
		t.Errorf("pairs: %v", pairs)
	}
	if again := built(t, 3, pairs[:2]); again[0] != 7 {
		t.Errorf("again: %v", again)
	}
}

func TestRight(t *testing.T) { // P4.1
	for n, many := range map[int]int{1: 1, 2: 3, 3: 19, 4: 219} {
		right := 0
		for _, up := range lists(n) {
			if Right(up) != is(up) {
				t.Errorf("Right(%v): %v", up, !is(up))
			}
			if Right(up) {
				right++
			}
		}
		if right != many {
			t.Errorf("orders of %d labels: %d", n, right)
		}
	}
}

// single is an order of labels none of which stands above another one.
func single(n int) []uint64 {
	up := make([]uint64, n)
	for a := range n {
		up[a] = 1 << a
	}
	return up
}

// broken are lists that are no orders.
func broken() [][]uint64 {
	l := [][]uint64{
		nil, {}, {0}, {2}, {3}, {1 | 1<<63}, {^uint64(0)},
		{1, 2, 12}, {5, 2}, {1, 1}, {2, 1}, {3, 3}, {1, 0}, {3, 6, 4}, {3, 6, 5}, {7, 7, 7},
		make([]uint64, 64), make([]uint64, 65), make([]uint64, 1<<16), single(65),
	}
	for _, c := range []struct {
		n, a int
		mask uint64
	}{
		{63, 0, 1 | 1<<63}, {63, 62, 3 << 62}, {64, 63, 0}, {64, 0, math.MaxUint64 - 1}, {64, 63, 1 << 62}, {2, 1, 1<<1 | 1<<63},
	} {
		up := single(c.n)
		up[c.a] = c.mask
		l = append(l, up)
	}
	last := single(64)
	last[0], last[62], last[63] = 1|1<<63, 1|1<<62, 1<<63
	cycle := single(64)
	cycle[0], cycle[63] = 1|1<<63, 1|1<<63
	return append(l, last, cycle)
}

func TestRightAtTheEdges(t *testing.T) { // P4.1
	for _, up := range broken() {
		if Right(up) {
			t.Errorf("Right(%x): true", up)
		}
	}
	for _, n := range []int{1, 2, 63, 64} {
		if !Right(single(n)) {
			t.Errorf("Right of %d labels: false", n)
		}
	}
	top := single(64)
	for a := range top {
		top[a] |= 1 << 63
	}
	if !Right(top) {
		t.Error("Right of 64 labels, one above all: false")
	}
}

func TestAtAboveBelow(t *testing.T) { // P4.2
	for _, up := range some(t) {
		for a := range up {
			var below uint64
			for b := range up {
				if got := At(up, a, b); got != (up[a]>>b&1 == 1) {
					t.Errorf("At(%x, %d, %d): %v", up, a, b, got)
				}
				if up[b]>>a&1 == 1 {
					below |= 1 << b
				}
			}
			if got := Above(up, a); got != up[a] {
				t.Errorf("Above(%x, %d): %x", up, a, got)
			}
			if got := Below(up, a); got != below {
				t.Errorf("Below(%x, %d): %x", up, a, got)
			}
		}
	}
}

// join looks for the label at or above both that each such label is at or above.
func join(up []uint64, a, b int) (int, bool) {
	at := func(a, b int) bool { return up[a]>>b&1 == 1 }
	for c := range up {
		good := at(a, c) && at(b, c)
		for d := range up {
			good = good && (!at(a, d) || !at(b, d) || at(c, d))
		}
		if good {
			return c, true
		}
	}
	return 0, false
}

func TestJoin(t *testing.T) { // P4.2
	for _, up := range some(t) {
		for a := range up {
			for b := range up {
				want, ok := join(up, a, b)
				if got, is := Join(up, a, b); got != want || is != ok {
					t.Errorf("Join(%x, %d, %d): %d, %v", up, a, b, got, is)
				}
			}
		}
	}
	// 0 and 1 have 2 and 3 above them, of which none is above the other one, and 4 above all.
	bow := built(t, 5, [][2]int{{0, 2}, {0, 3}, {1, 2}, {1, 3}, {2, 4}, {3, 4}})
	if c, ok := Join(bow, 0, 1); ok || c != 0 {
		t.Errorf("Join of two with two: %d, %v", c, ok)
	}
	if c, ok := Join(bow, 2, 3); !ok || c != 4 {
		t.Errorf("Join of two with one: %d, %v", c, ok)
	}
}

// nothing looks whether nothing is answered of an order and two numbers.
func nothing(t *testing.T, up []uint64, a, b int) {
	t.Helper()
	if At(up, a, b) {
		t.Errorf("At(%x, %d, %d): true", up, a, b)
	}
	if c, ok := Join(up, a, b); ok || c != 0 {
		t.Errorf("Join(%x, %d, %d): %d, %v", up, a, b, c, ok)
	}
}

func TestNoLabels(t *testing.T) { // P4.2
	for _, up := range [][]uint64{{1}, {7, 6, 4}, single(63), single(64)} {
		for _, a := range append(strange(), len(up)) {
			nothing(t, up, a, 0)
			nothing(t, up, 0, a)
			nothing(t, up, a, a)
			if m, n := Above(up, a), Below(up, a); m != 0 || n != 0 {
				t.Errorf("above and below %d: %x, %x", a, m, n)
			}
		}
	}
}

func TestNoOrder(t *testing.T) { // P4.2, P4.3
	for _, up := range broken() {
		for _, a := range append(strange(), 0, 1, 2, 62, 63) {
			for _, b := range []int{0, 1, 2, 62, 63, a} {
				nothing(t, up, a, b)
			}
			if m, n := Above(up, a), Below(up, a); m != 0 || n != 0 {
				t.Errorf("of %x above and below %d: %x, %x", up, a, m, n)
			}
		}
		if l := Pairs(up); len(l) != 0 {
			t.Errorf("Pairs(%x): %v", up, l)
		}
	}
}

func TestPairs(t *testing.T) { // P4.3
	cases := []struct {
		up   []uint64
		want [][2]int
	}{
		{[]uint64{1}, nil},
		{[]uint64{1, 2, 4}, nil},
		{[]uint64{7, 6, 4}, [][2]int{{0, 1}, {1, 2}}},
		{[]uint64{1, 3, 7}, [][2]int{{1, 0}, {2, 1}}},
		{[]uint64{15, 10, 12, 8}, [][2]int{{0, 1}, {0, 2}, {1, 3}, {2, 3}}},
	}
	for _, c := range cases {
		if got := Pairs(c.up); !slices.Equal(got, c.want) {
			t.Errorf("Pairs(%v): %v", c.up, got)
		}
	}
}

// pairs looks for all pairs with no third label between.
func pairs(up []uint64) [][2]int {
	var l [][2]int
	at := func(a, b int) bool { return a != b && up[a]>>b&1 == 1 }
	for a := range up {
		for b := range up {
			good := at(a, b)
			for c := range up {
				good = good && !(at(a, c) && at(c, b))
			}
			if good {
				l = append(l, [2]int{a, b})
			}
		}
	}
	return l
}

func TestPairsOfAll(t *testing.T) { // P4.3
	for _, up := range some(t) {
		got := Pairs(up)
		if !slices.Equal(got, pairs(up)) {
			t.Errorf("Pairs(%x): %v", up, got)
		}
		if again := built(t, len(up), got); !slices.Equal(again, up) {
			t.Errorf("Build of the pairs of %x: %x", up, again)
		}
	}
}

func TestNothingIsChanged(t *testing.T) { // P4.2, P4.3, R4
	room := []uint64{7, 6, 4, 99}
	up := room[:3]
	Right(up)
	At(up, 0, 1)
	Above(up, 0)
	Below(up, 2)
	Join(up, 0, 1)
	first := Pairs(up)
	first[0] = [2]int{5, 5}
	if got := Pairs(up); got[0] != [2]int{0, 1} {
		t.Errorf("Pairs again: %v", got)
	}
	if !slices.Equal(room, []uint64{7, 6, 4, 99}) {
		t.Errorf("the order: %v", room)
	}
}

func TestBits(t *testing.T) { // P4.3
	for mask, want := range map[uint64][]int{
		0:                         nil,
		1:                         {0},
		6:                         {1, 2},
		1 << 63:                   {63},
		1<<63 | 1<<32 | 1<<5:      {5, 32, 63},
		1<<63 | 1<<62 | 1<<0:      {0, 62, 63},
		0x8000_0001_8000_0001:     {0, 31, 32, 63},
		0x0000_0000_0000_00f0:     {4, 5, 6, 7},
		0x5000_0000_0000_0000:     {60, 62},
		^uint64(0) &^ (1<<61 - 1): {61, 62, 63},
	} {
		seq := Bits(mask)
		for range 2 { // what was gone through can be gone through again
			if got := slices.Collect(seq); !slices.Equal(got, want) {
				t.Errorf("Bits(%x): %v", mask, got)
			}
		}
	}
	next := 0
	for b := range Bits(^uint64(0)) {
		if b != next {
			t.Fatalf("Bits of all: %d, not %d", b, next)
		}
		next++
	}
	if next != 64 {
		t.Errorf("Bits of all: %d bits", next)
	}
}

func TestBitsEndsEarly(t *testing.T) { // P4.3
	seq := Bits(0xff)
	count := 0
	for b := range seq {
		count++
		if b == 2 {
			break
		}
	}
	if count != 3 {
		t.Errorf("bits up to the third one: %d", count)
	}
	sum := 0
	for a := range seq {
		for b := range seq {
			sum += a * b
		}
	}
	if sum != 28*28 {
		t.Errorf("loops in one another: %d", sum)
	}
}
