package relate

import (
	"math"
	"math/rand"
	"reflect"
	"slices"
	"strconv"
	"strings"
	"testing"

	"mandate/api"
	"mandate/value"
)

// spelt is a tuple of words: a predicate, and its values.
func spelt(words string) api.Tuple {
	l := strings.Fields(words)
	x := api.Tuple{Pred: l[0]}
	for _, s := range l[1:] {
		x.Args = append(x.Args, worth(s))
	}
	return x
}

// worth is a value that is spelt; a text that spells none is a symbol all the same.
func worth(s string) api.Value {
	v, ok := value.Read(s)
	if !ok {
		v.Sym = s
	}
	return v
}

// words spells a tuple.
func words(x api.Tuple) string {
	l := []string{x.Pred}
	for _, v := range x.Args {
		s, _ := value.Text(v)
		l = append(l, s)
	}
	return strings.Join(l, " ")
}

// lines spells rows: the mask, the tuple.
func lines(rows []Row) []string {
	var l []string
	for _, r := range rows {
		l = append(l, strconv.FormatUint(r.Mask, 10)+" "+words(r.Tuple))
	}
	return l
}

// all are the rows that All goes through.
func all(t *Table) []Row {
	var rows []Row
	for x, mask := range t.All() {
		rows = append(rows, Row{x, mask})
	}
	return rows
}

func added(t *testing.T, b *Table, x string, mask, want uint64) {
	t.Helper()
	if got := b.Add(spelt(x), mask); got != want {
		t.Errorf("Add(%s, %x): %x, not %x", x, mask, got, want)
	}
}

func masked(t *testing.T, b *Table, x string, want uint64) {
	t.Helper()
	if got := b.Mask(spelt(x)); got != want {
		t.Errorf("Mask(%s): %x, not %x", x, got, want)
	}
}

func counted(t *testing.T, b *Table, tuples int, bits map[int]int) {
	t.Helper()
	if n := b.Len(); n != tuples {
		t.Errorf("Len: %d, not %d", n, tuples)
	}
	for bit := range api.MaxLabels {
		if n := b.Count(bit); n != bits[bit] {
			t.Errorf("Count(%d): %d, not %d", bit, n, bits[bit])
		}
	}
}

func listed(t *testing.T, what string, rows []Row, want ...string) {
	t.Helper()
	if got := lines(rows); !slices.Equal(got, want) {
		t.Errorf("%s: %q, not %q", what, got, want)
	}
}

func TestTable(t *testing.T) { // P12.1, P12.3: the chapter's example
	b := New()
	added(t, b, "p a", 3, 3)
	added(t, b, "p a", 6, 4)
	masked(t, b, "p a", 7)
	listed(t, "Fresh", b.Fresh(), "7 p a")
	listed(t, "Fresh", b.Fresh())
	added(t, b, "p a", 8, 8)
	listed(t, "Fresh", b.Fresh(), "8 p a")
	counted(t, b, 1, map[int]int{0: 1, 1: 1, 2: 1, 3: 1})
}

func TestNew(t *testing.T) { // P12.1
	a, b := New(), New()
	added(t, a, "p a", 1, 1)
	counted(t, b, 0, nil)
	masked(t, b, "p a", 0)
	listed(t, "All", all(b))
	listed(t, "Where", b.Where("p", -1, api.Value{}))
	listed(t, "Fresh", b.Fresh())
	listed(t, "All", all(a), "1 p a")
}

func TestAdd(t *testing.T) { // P12.1
	b := New()
	added(t, b, "p a", 0, 0)
	counted(t, b, 0, nil)
	listed(t, "All", all(b))
	listed(t, "Where", b.Where("p", 0, worth("a")))
	listed(t, "Fresh", b.Fresh())
	added(t, b, "p a", math.MaxUint64, math.MaxUint64)
	added(t, b, "p a", math.MaxUint64, 0)
	added(t, b, "p a 1", 1<<63, 1<<63)
	added(t, b, "p a 1", 1<<63|1, 1)
	added(t, b, "p a 1", 0, 0)
	added(t, b, "q a", 5, 5)
	added(t, b, "q a", 5, 0)
	masked(t, b, "p a", math.MaxUint64)
	masked(t, b, "p a 1", 1<<63|1)
	masked(t, b, "q a", 5)
	bits := map[int]int{}
	for bit := range api.MaxLabels {
		bits[bit] = 1
	}
	bits[0], bits[2], bits[63] = 3, 2, 2
	counted(t, b, 3, bits)
}

func TestTuplesThatAreUnlike(t *testing.T) { // P12.1
	b := New()
	l := []string{"p a", "p a 0", "p a 0 0", "p a 0 0 0", "p a 0 0 0 0", "p b", "p a 1", "p a b", "p a -1", "q a", "pa a", "p aa", "p a0 0"}
	for i, x := range l {
		added(t, b, x, 1<<i, 1<<i)
	}
	for i, x := range l {
		masked(t, b, x, 1<<i)
	}
	counted(t, b, len(l), map[int]int{0: 1, 1: 1, 2: 1, 3: 1, 4: 1, 5: 1, 6: 1, 7: 1, 8: 1, 9: 1, 10: 1, 11: 1, 12: 1})
	for _, x := range []string{"p", "p c", "p b 0", "q a 0", "q b", "p a 0 1", "p a 2"} {
		masked(t, b, x, 0)
	}
}

// wrong are tuples that may not be.
func wrong() []api.Tuple {
	odd := spelt("p a a")
	odd.Args[1].Num = 1
	long := strings.Repeat("a", api.MaxName+1)
	return []api.Tuple{
		{}, {Pred: "p"}, {Pred: "p", Args: []api.Value{}}, {Args: []api.Value{worth("a")}}, spelt("p 7"), spelt("p 0 a"), spelt("P a"), spelt("not a"), spelt("says a"), spelt(long + " a"),
		spelt("p X"), spelt("p not"), spelt("p a X"), spelt("p a says"), spelt("p a " + long), spelt("p a b c d e f"), spelt("p a 0 0 0 0 0"), odd, {Pred: "p q", Args: []api.Value{worth("a")}},
	}
}

func TestAddOfWhatMayNotBe(t *testing.T) { // P12.1
	b := New()
	for _, full := range []bool{false, true} {
		for _, x := range wrong() {
			for _, mask := range []uint64{0, 1, math.MaxUint64} {
				if got := b.Add(x, mask); got != 0 {
					t.Errorf("Add(%v, %x): %x", x, mask, got)
				}
			}
			if got := b.Mask(x); got != 0 {
				t.Errorf("Mask(%v): %x", x, got)
			}
		}
		if full {
			listed(t, "All", all(b), "3 p a", "1 p a 0 0 0 0")
			listed(t, "Fresh", b.Fresh(), "3 p a", "1 p a 0 0 0 0")
			counted(t, b, 2, map[int]int{0: 2, 1: 1})
		} else {
			listed(t, "All", all(b))
			listed(t, "Fresh", b.Fresh())
			counted(t, b, 0, nil)
		}
		b = New()
		b.Add(spelt("p a"), 3)
		b.Add(spelt("p a 0 0 0 0"), 1)
	}
}

func TestCountOfNoBit(t *testing.T) { // P12.1
	b := New()
	b.Add(spelt("p a"), math.MaxUint64)
	for _, bit := range []int{-1, 64, 65, -64, 128, math.MinInt, math.MaxInt} {
		if n := b.Count(bit); n != 0 {
			t.Errorf("Count(%d): %d", bit, n)
		}
	}
}

// some is a table of tuples of some kinds.
func some() *Table {
	b := New()
	for i, x := range []string{"q b", "p b 1", "p a 2", "none a", "p a 10", "p b a", "p a -1", "p a a", "p b", "p a", "p b 1 1", "p a 1 b", "q a"} {
		b.Add(spelt(x), uint64(i+1))
	}
	return b
}

func TestAll(t *testing.T) { // P12.2
	b := some()
	want := []string{"4 none a", "10 p a", "9 p b", "7 p a -1", "3 p a 2", "5 p a 10", "8 p a a", "2 p b 1", "6 p b a", "12 p a 1 b", "11 p b 1 1", "13 q a", "1 q b"}
	listed(t, "All", all(b), want...)
	listed(t, "All again", all(b), want...)
	b.Add(spelt("p a 3"), 1<<40)
	b.Add(spelt("q b"), 2)
	b.Add(spelt("a z"), 1)
	listed(t, "All", all(b), "1 a z", "4 none a", "10 p a", "9 p b", "7 p a -1", "3 p a 2", "1099511627776 p a 3", "5 p a 10", "8 p a a", "2 p b 1", "6 p b a", "12 p a 1 b", "11 p b 1 1", "13 q a", "3 q b")
}

func TestAllAsItStandsWhenTheLoopBegins(t *testing.T) { // P12.2
	b := New()
	seq := b.All()
	b.Add(spelt("p b"), 1)
	b.Add(spelt("p d"), 2)
	var rows, inner []Row
	for x, mask := range seq {
		rows = append(rows, Row{x, mask})
		for _, s := range []string{"p a", "p b", "p c", "p d", "p e"} {
			b.Add(spelt(s), 4)
		}
		if len(inner) == 0 {
			for x, mask := range seq {
				inner = append(inner, Row{x, mask})
				b.Add(spelt("p f"), 8)
			}
		}
		b.Fresh()
		b.Where("p", -1, api.Value{})
	}
	listed(t, "the outer loop", rows, "1 p b", "2 p d")
	listed(t, "the inner loop", inner, "4 p a", "5 p b", "4 p c", "6 p d", "4 p e")
	var again []Row
	for x, mask := range seq {
		again = append(again, Row{x, mask})
	}
	listed(t, "the loop again", again, "4 p a", "5 p b", "4 p c", "6 p d", "4 p e", "8 p f")
}

func TestAllIsLeft(t *testing.T) { // P12.2, R1
	b := some()
	for many := 1; many <= b.Len(); many++ {
		n := 0
		for range b.All() {
			if n++; n == many {
				break
			}
		}
		if n != many {
			t.Errorf("%d, not %d", n, many)
		}
	}
	listed(t, "All", all(b)[:2], "4 none a", "10 p a")
}

func TestWhere(t *testing.T) { // P12.2
	b := some()
	for _, c := range []struct {
		pred string
		at   int
		v    string
		want []string
	}{
		{"p", -1, "0", []string{"10 p a", "9 p b", "7 p a -1", "3 p a 2", "5 p a 10", "8 p a a", "2 p b 1", "6 p b a", "12 p a 1 b", "11 p b 1 1"}},
		{"p", -1, "b", []string{"10 p a", "9 p b", "7 p a -1", "3 p a 2", "5 p a 10", "8 p a a", "2 p b 1", "6 p b a", "12 p a 1 b", "11 p b 1 1"}},
		{"q", -1, "7", []string{"13 q a", "1 q b"}},
		{"none", -1, "not", []string{"4 none a"}},
		{"p", 0, "a", []string{"10 p a", "7 p a -1", "3 p a 2", "5 p a 10", "8 p a a", "12 p a 1 b"}},
		{"p", 0, "b", []string{"9 p b", "2 p b 1", "6 p b a", "11 p b 1 1"}},
		{"p", 1, "1", []string{"2 p b 1", "12 p a 1 b", "11 p b 1 1"}},
		{"p", 1, "a", []string{"8 p a a", "6 p b a"}},
		{"p", 1, "-1", []string{"7 p a -1"}},
		{"p", 2, "1", []string{"11 p b 1 1"}},
		{"p", 2, "b", []string{"12 p a 1 b"}},
		{"q", 0, "b", []string{"1 q b"}},
		{"none", 0, "a", []string{"4 none a"}},
		{"p", 0, "c", nil}, {"p", 0, "0", nil}, {"p", 1, "0", nil}, {"p", 1, "b", nil}, {"p", 2, "0", nil}, {"p", 2, "a", nil}, {"p", 3, "0", nil}, {"p", 3, "1", nil},
		{"q", 1, "0", nil}, {"q", 1, "a", nil}, {"none", 1, "0", nil}, {"r", -1, "0", nil}, {"r", 0, "a", nil}, {"", -1, "0", nil}, {"", 0, "a", nil}, {"P", -1, "0", nil}, {"p a", -1, "0", nil},
		{"p", -2, "0", nil}, {"p", -2, "a", nil}, {"p", math.MinInt, "0", nil}, {"p", 5, "0", nil}, {"p", 6, "a", nil}, {"p", math.MaxInt, "a", nil}, {"p", 0, "X y", nil},
	} {
		listed(t, "Where("+c.pred+", "+strconv.Itoa(c.at)+", "+c.v+")", b.Where(c.pred, c.at, worth(c.v)), c.want...)
	}
	odd := api.Value{Sym: "a", Num: 7}
	listed(t, "Where of a value that may not be", b.Where("p", 0, odd))
	if rows := b.Where("q", -1, odd); len(rows) != 2 {
		t.Errorf("Where of all: %v", rows)
	}
}

func TestWhereGrows(t *testing.T) { // P12.2
	b := New()
	a := worth("a")
	listed(t, "Where", b.Where("p", 0, a))
	b.Add(spelt("p a 5"), 1)
	listed(t, "Where", b.Where("p", 0, a), "1 p a 5")
	b.Add(spelt("p a 5"), 6)
	b.Add(spelt("p a 3"), 1)
	b.Add(spelt("p b 4"), 1)
	listed(t, "Where", b.Where("p", 0, a), "1 p a 3", "7 p a 5")
	b.Add(spelt("p a a"), 2)
	b.Add(spelt("p a"), 2)
	b.Fresh()
	listed(t, "Where", b.Where("p", 0, a), "2 p a", "1 p a 3", "7 p a 5", "2 p a a")
	listed(t, "Where", b.Where("p", -1, a), "2 p a", "1 p a 3", "7 p a 5", "2 p a a", "1 p b 4")
}

func TestFresh(t *testing.T) { // P12.3
	b := some()
	listed(t, "Fresh", b.Fresh(), lines(all(b))...)
	listed(t, "Fresh", b.Fresh())
	b.Add(spelt("q b"), 1)
	b.Add(spelt("q b"), 0)
	listed(t, "Fresh of nothing new", b.Fresh())
	b.Add(spelt("q b"), 8|1)
	b.Add(spelt("q b"), 16)
	b.Add(spelt("p z"), 1)
	b.Add(spelt("p c"), 2)
	b.Add(spelt("p X"), 2)
	listed(t, "Fresh", b.Fresh(), "2 p c", "1 p z", "24 q b")
	masked(t, b, "q b", 25)
	listed(t, "Fresh", b.Fresh())
	b.Add(spelt("p z"), math.MaxUint64)
	listed(t, "Fresh", b.Fresh(), "18446744073709551614 p z")
	listed(t, "Fresh", b.Fresh())
}

func TestNilTable(t *testing.T) { // P12.1, P12.2, P12.3
	var b *Table
	added(t, b, "p a", 7, 0)
	masked(t, b, "p a", 0)
	counted(t, b, 0, nil)
	for _, bit := range []int{-1, 64, math.MaxInt} {
		if n := b.Count(bit); n != 0 {
			t.Errorf("Count(%d): %d", bit, n)
		}
	}
	for _, x := range wrong() {
		if b.Add(x, 1) != 0 || b.Mask(x) != 0 {
			t.Errorf("%v", x)
		}
	}
	listed(t, "All", all(b))
	listed(t, "Where", b.Where("p", -1, api.Value{}))
	listed(t, "Where", b.Where("p", 0, worth("a")))
	listed(t, "Fresh", b.Fresh())
}

func TestNothingIsShared(t *testing.T) { // R4
	b := New()
	x := spelt("p a 1")
	room := append(x.Args, worth("room"))
	x.Args = room[:2]
	b.Add(x, 1)
	b.Mask(x)
	if room[2] != worth("room") || words(x) != "p a 1" {
		t.Errorf("changed: %v", room)
	}
	x.Args[1] = worth("9")
	b.Add(spelt("p a 2"), 1)
	answers := func(mask uint64) [][]Row {
		b.Add(spelt("p a 1"), mask)
		return [][]Row{all(b), b.Where("p", -1, api.Value{}), b.Where("p", 0, worth("a")), b.Where("p", 1, worth("1")), b.Fresh()}
	}
	for _, mask := range []uint64{2, 4} {
		for _, rows := range answers(mask) {
			for i := range rows {
				_ = append(rows[i].Tuple.Args, worth("room"))
			}
			if words(rows[0].Tuple) != "p a 1" {
				t.Errorf("rows share memory: %v", rows)
			}
			for i := range rows {
				rows[i].Tuple.Args[0], rows[i].Tuple.Args[1], rows[i].Mask = worth("z"), worth("z"), 77
			}
		}
	}
	listed(t, "All", all(b), "7 p a 1", "1 p a 2")
	listed(t, "Where", b.Where("p", 0, worth("a")), "7 p a 1", "1 p a 2")
	listed(t, "Where", b.Where("p", 1, worth("1")), "7 p a 1")
	b.Add(spelt("p a 2"), 2)
	listed(t, "Fresh", b.Fresh(), "2 p a 2")
	masked(t, b, "p a 9", 0)
	masked(t, b, "p z z", 0)
}

// plain is a table without any map: rows as they came, and the bits that are new.
type plain struct {
	rows, fresh []Row
}

func rowAt(rows []Row, x api.Tuple) int {
	return slices.IndexFunc(rows, func(r Row) bool { return reflect.DeepEqual(r.Tuple, x) })
}

func (p *plain) add(x api.Tuple, mask uint64) uint64 {
	at := rowAt(p.rows, x)
	if at < 0 {
		at, p.rows = len(p.rows), append(p.rows, Row{x, 0})
	}
	got := mask &^ p.rows[at].Mask
	p.rows[at].Mask |= got
	if at = rowAt(p.fresh, x); at < 0 {
		at, p.fresh = len(p.fresh), append(p.fresh, Row{x, 0})
	}
	p.fresh[at].Mask |= got
	return got
}

func (p *plain) mask(x api.Tuple) uint64 {
	if at := rowAt(p.rows, x); at >= 0 {
		return p.rows[at].Mask
	}
	return 0
}

// rowsOf are the rows that have a bit and that one asks for, in order.
func rowsOf(rows []Row, asks func(x api.Tuple) bool) []Row {
	rows = slices.DeleteFunc(slices.Clone(rows), func(r Row) bool { return r.Mask == 0 || !asks(r.Tuple) })
	slices.SortFunc(rows, func(a, b Row) int { return value.Order(a.Tuple, b.Tuple) })
	return rows
}

func (p *plain) where(pred string, at int, v api.Value) []Row {
	return rowsOf(p.rows, func(x api.Tuple) bool {
		return x.Pred == pred && (at == -1 || at >= 0 && at < len(x.Args) && x.Args[at] == v)
	})
}

func every(api.Tuple) bool { return true }

// drawn is a tuple of some words.
func drawn(chance *rand.Rand) api.Tuple {
	x := api.Tuple{Pred: []string{"p", "q", "pp"}[chance.Intn(3)], Args: []api.Value{worth([]string{"a", "b"}[chance.Intn(2)])}}
	for range chance.Intn(api.MaxArity + 1) {
		x.Args = append(x.Args, worth([]string{"a", "b", "0", "-1"}[chance.Intn(4)]))
	}
	return x
}

// holdsAgainst holds what a table answers against what a plain one does.
func holdsAgainst(t *testing.T, chance *rand.Rand, b *Table, p *plain) {
	t.Helper()
	rows := rowsOf(p.rows, every)
	counts := map[int]int{}
	for _, r := range rows {
		for bit := range api.MaxLabels {
			counts[bit] += int(r.Mask >> bit & 1)
		}
	}
	counted(t, b, len(rows), counts)
	listed(t, "All", all(b), lines(rows)...)
	for range 6 {
		pred, at, v := drawn(chance).Pred, chance.Intn(api.MaxArity+4)-2, worth([]string{"a", "b", "0", "-1"}[chance.Intn(4)])
		listed(t, "Where", b.Where(pred, at, v), lines(p.where(pred, at, v))...)
	}
}

func TestManyTables(t *testing.T) { // P12.1, P12.2, P12.3
	chance := rand.New(rand.NewSource(12))
	for range 120 {
		b, p := New(), &plain{}
		for range chance.Intn(150) {
			x, mask := drawn(chance), uint64(1)<<chance.Intn(64)|uint64(1)<<chance.Intn(64)
			if chance.Intn(8) == 0 {
				mask = chance.Uint64()
			}
			if got, want := b.Add(x, mask), p.add(x, mask); got != want {
				t.Fatalf("Add(%v, %x): %x, not %x", x, mask, got, want)
			}
			if x = drawn(chance); b.Mask(x) != p.mask(x) {
				t.Fatalf("Mask(%v): %x, not %x", x, b.Mask(x), p.mask(x))
			}
			if chance.Intn(12) == 0 {
				listed(t, "Fresh", b.Fresh(), lines(rowsOf(p.fresh, every))...)
				p.fresh = nil
			}
			if chance.Intn(12) == 0 {
				holdsAgainst(t, chance, b, p)
			}
		}
		holdsAgainst(t, chance, b, p)
		if t.Failed() {
			return
		}
	}
}

func TestGreatTable(t *testing.T) { // P12.1, P12.2, R1
	b := New()
	n := 64 * api.MaxBound
	for i := range n {
		x := spelt("p a")
		x.Args = append(x.Args, api.Value{Num: int64(i * 7919 % n)}, api.Value{Num: int64(i % 512)})
		if b.Add(x, 1<<(i%64)) == 0 {
			t.Fatalf("%v is there already", x)
		}
	}
	if b.Len() != n || b.Count(63) != api.MaxBound || len(b.Fresh()) != n || len(b.Fresh()) != 0 {
		t.Errorf("Len: %d; Count: %d", b.Len(), b.Count(63))
	}
	for i := range 512 {
		if rows := b.Where("p", 2, api.Value{Num: int64(i)}); len(rows) != n/512 {
			t.Fatalf("Where: %d", len(rows))
		}
	}
	for range 5 {
		i := 0
		for x := range b.All() {
			if x.Args[1].Num != int64(i) {
				t.Fatalf("All: %v at %d", x, i)
			}
			i++
		}
	}
}
