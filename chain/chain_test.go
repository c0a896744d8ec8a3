package chain

import (
	"bytes"
	"crypto/sha256"
	"encoding/binary"
	"math"
	"math/rand"
	"reflect"
	"strconv"
	"strings"
	"testing"

	"mandate/api"
)

// byWords writes an entry's bytes as the chapter's words tell them.
func byWords(i int, e api.Entry) []byte {
	b := binary.BigEndian.AppendUint64(nil, uint64(i))
	b = append(append(b, byte(len(e.User))), e.User...)
	b = binary.BigEndian.AppendUint64(b, uint64(e.Tick))
	b = binary.BigEndian.AppendUint32(b, uint32(len(e.Text)))
	return append(append(b, e.Text...), e.Digest[:]...)
}

// headByWords is the head of entries, and what was summed for each of them.
func headByWords(cut int, l []api.Entry) (head []byte, summed [][]byte) {
	head = make([]byte, cut)
	for i, e := range l {
		text := append(bytes.Clone(head), byWords(i, e)...)
		sum := sha256.Sum256(text)
		head, summed = bytes.Clone(sum[:cut]), append(summed, text)
	}
	return head, summed
}

func drawn(r *rand.Rand) api.Entry {
	e := api.Entry{User: []string{"ann", "bob", "c_9"}[r.Intn(3)], Tick: r.Int63n(3), Text: strings.Repeat("x", r.Intn(4))}
	e.Digest[r.Intn(32)] = byte(r.Intn(256))
	return e
}

func drawnList(r *rand.Rand, n int) []api.Entry {
	var l []api.Entry
	for range n {
		l = append(l, drawn(r))
	}
	return l
}

// bad entries, each by one part.
func badEntries() []api.Entry {
	return []api.Entry{
		{},
		{User: "Ann"},
		{User: "not"},
		{User: "says"},
		{User: strings.Repeat("a", api.MaxName+1)},
		{User: "ann", Tick: -1},
		{User: "ann", Tick: math.MinInt64},
		{User: "ann", Tick: api.MaxTick + 1},
		{User: "ann", Tick: math.MaxInt64},
		{User: "ann", Text: strings.Repeat("x", api.MaxText+1)},
	}
}

// goodEntries stand at the edges.
func goodEntries() []api.Entry {
	full := api.Entry{User: strings.Repeat("a", api.MaxName), Tick: api.MaxTick, Text: strings.Repeat("\xff", api.MaxText)}
	for i := range full.Digest {
		full.Digest[i] = byte(i + 1)
	}
	return []api.Entry{{User: "a"}, {User: "ann", Tick: 258, Text: "query p(X)"}, full}
}

// P18.1: Good, at the edges and beyond them.
func TestGood(t *testing.T) {
	for i, e := range goodEntries() {
		if !Good(e) {
			t.Errorf("entry %d may not be", i)
		}
	}
	for i, e := range badEntries() {
		if Good(e) {
			t.Errorf("bad entry %d may be", i)
		}
	}
}

// P18.1: the bytes, written out, and by the chapter's words.
func TestBytes(t *testing.T) {
	e := api.Entry{User: "ann", Tick: 258, Text: "hi"}
	e.Digest[0], e.Digest[31] = 7, 8
	want := []byte{0, 0, 0, 0, 0, 1, 0, 3, 3, 'a', 'n', 'n', 0, 0, 0, 0, 0, 0, 1, 2, 0, 0, 0, 2, 'h', 'i', 7}
	want = append(want, make([]byte, 30)...)
	want = append(want, 8)
	if got, errno := Bytes(65539, e); errno != api.OK || !bytes.Equal(got, want) {
		t.Errorf("Bytes: %v %v", got, errno)
	}
	for _, i := range []int{0, 1, 255, 256, math.MaxInt64} {
		for _, e := range goodEntries() {
			if got, errno := Bytes(i, e); errno != api.OK || !bytes.Equal(got, byWords(i, e)) {
				t.Errorf("Bytes(%d): %v", i, errno)
			}
		}
	}
	for _, i := range []int{-1, math.MinInt64} {
		if got, errno := Bytes(i, e); errno != api.ErrArg || got != nil {
			t.Errorf("Bytes(%d): %v %v", i, got, errno)
		}
	}
	for i, e := range badEntries() {
		if got, errno := Bytes(0, e); errno != api.ErrArg || got != nil {
			t.Errorf("Bytes of the bad entry %d: %v %v", i, got, errno)
		}
	}
}

// P18.1: heads of each cut; Verify takes the head alone.
func TestHead(t *testing.T) {
	r := rand.New(rand.NewSource(18))
	for cut := 1; cut <= 32; cut++ {
		for n := range 6 {
			l := append(drawnList(r, n), goodEntries()[:n/2]...)
			want, _ := headByWords(cut, l)
			got, errno := Head(cut, l)
			if errno != api.OK || !bytes.Equal(got, want) {
				t.Fatalf("Head(%d) of %d: %x %v, want %x", cut, n, got, errno, want)
			}
			if n == 0 && !bytes.Equal(got, make([]byte, cut)) {
				t.Errorf("Head(%d) of none: %x", cut, got)
			}
			if errno := Verify(cut, l, want); errno != api.OK {
				t.Errorf("Verify(%d): %v", cut, errno)
			}
			unlike := bytes.Clone(want)
			unlike[r.Intn(cut)] ^= 1 << r.Intn(8)
			for _, head := range [][]byte{unlike, want[:cut-1], append(bytes.Clone(want), 0), nil} {
				if errno := Verify(cut, l, head); errno != api.ErrChain {
					t.Errorf("Verify(%d) of %x for %x: %v", cut, head, want, errno)
				}
			}
		}
	}
}

// P18.1: no such cut, and entries that may not be.
func TestHeadWrong(t *testing.T) {
	for _, cut := range []int{0, -1, 33, math.MinInt64, math.MaxInt64} {
		if h, errno := Head(cut, nil); errno != api.ErrArg || h != nil {
			t.Errorf("Head(%d): %v %v", cut, h, errno)
		}
		if errno := Verify(cut, nil, nil); errno != api.ErrArg {
			t.Errorf("Verify(%d): %v", cut, errno)
		}
	}
	for i, e := range badEntries() {
		for _, l := range [][]api.Entry{{e}, {{User: "ann"}, e}, {e, {User: "ann"}}} {
			if h, errno := Head(32, l); errno != api.ErrArg || h != nil {
				t.Errorf("Head of the bad entry %d: %v %v", i, h, errno)
			}
			if errno := Verify(32, l, make([]byte, 32)); errno != api.ErrArg {
				t.Errorf("Verify of the bad entry %d: %v", i, errno)
			}
		}
	}
}

// clashByWords goes back from the ends while what was summed is the same.
func clashByWords(cut int, a, b []api.Entry) (x, y []byte, ok bool) {
	h, of := headByWords(cut, a)
	k, with := headByWords(cut, b)
	if len(a) == 0 || len(b) == 0 || !bytes.Equal(h, k) || reflect.DeepEqual(a, b) {
		return nil, nil, false
	}
	for i := 1; ; i++ {
		if x, y := of[len(of)-i], with[len(with)-i]; !bytes.Equal(x, y) {
			return x, y, true
		}
	}
}

// P18.2: with a cut of 1 many lists have one head; what Clash tells of each pair is what was summed there.
func TestClash(t *testing.T) {
	r := rand.New(rand.NewSource(182))
	found, back := 0, 0
	for range 20000 {
		a, b := drawnList(r, r.Intn(4)), drawnList(r, r.Intn(4))
		tail := drawnList(r, r.Intn(3))
		a, b = append(a, tail...), append(b, tail...)
		x, y, ok := Clash(1, a, b)
		wantX, wantY, want := clashByWords(1, a, b)
		if ok != want || !bytes.Equal(x, wantX) || !bytes.Equal(y, wantY) {
			t.Fatalf("Clash: %x %x %v, want %x %x %v", x, y, ok, wantX, wantY, want)
		}
		if !ok {
			continue
		}
		found++
		if len(a) == len(b) && len(tail) > 0 {
			back++
		}
		if s, u := sha256.Sum256(x), sha256.Sum256(y); bytes.Equal(x, y) || s[0] != u[0] {
			t.Fatal("what Clash tells does not clash")
		}
	}
	if found < 50 || back < 10 {
		t.Errorf("only %d clashes, %d of them behind the last entry", found, back)
	}
}

// P18.2: wherever two lists with one head part, Clash goes back to that place.
func TestClashFarBack(t *testing.T) {
	first := map[byte]api.Entry{}
	for i := range 1000 {
		e := api.Entry{User: "ann", Text: strconv.Itoa(i)}
		h, _ := Head(1, []api.Entry{e})
		other, ok := first[h[0]]
		if !ok {
			first[h[0]] = e
			continue
		}
		tail := goodEntries()
		x, y, ok := Clash(1, append([]api.Entry{e}, tail...), append([]api.Entry{other}, tail...))
		if !ok || !bytes.Equal(x, append([]byte{0}, byWords(0, e)...)) || !bytes.Equal(y, append([]byte{0}, byWords(0, other)...)) {
			t.Fatalf("Clash: %x %x %v", x, y, ok)
		}
		return
	}
	t.Error("no two entries with one head")
}

// P18.2: what is no clash.
func TestNoClash(t *testing.T) {
	a, b := []api.Entry{{User: "ann"}}, []api.Entry{{User: "bob"}}
	none := func(what string, cut int, a, b []api.Entry) {
		if x, y, ok := Clash(cut, a, b); ok || x != nil || y != nil {
			t.Errorf("%s: %x %x %v", what, x, y, ok)
		}
	}
	none("unlike heads", 32, a, b)
	none("the same list", 1, a, append([]api.Entry(nil), a...))
	none("no entries", 1, nil, nil)
	none("a cut of 0", 0, a, b)
	none("a cut of 33", 33, a, b)
	none("a cut of -1", -1, a, b)
	for i := range 10000 {
		l := []api.Entry{{User: "ann", Text: strconv.Itoa(i)}}
		if h, _ := Head(1, l); h[0] == 0 {
			none("one list is empty", 1, l, nil)
			none("the other is empty", 1, nil, l)
			break
		}
	}
	head, _ := headByWords(1, a)
	for _, e := range badEntries() {
		// Of so many digests one gives its bytes the head of a.
		for i := range 10000 {
			e.Digest[0], e.Digest[1] = byte(i), byte(i>>8)
			if h, _ := headByWords(1, []api.Entry{e}); h[0] == head[0] {
				break
			}
		}
		none("a bad entry", 1, []api.Entry{e}, a)
		none("a bad entry", 1, a, []api.Entry{e})
	}
}

// P18.3: a log tells of each label what its entries say, by lists of our own.
func TestLog(t *testing.T) {
	r := rand.New(rand.NewSource(183))
	for range 60 {
		cut, labels := 1+r.Intn(32), 1+r.Intn(64)
		l, errno := New(cut, labels)
		if errno != api.OK || l == nil {
			t.Fatalf("New(%d, %d): %v", cut, labels, errno)
		}
		lists := make([][]api.Entry, labels)
		for range 80 {
			a, e := r.Intn(labels+4)-2, drawn(r)
			if r.Intn(5) == 0 {
				bad := badEntries()
				e = bad[r.Intn(len(bad))]
			}
			want := api.OK
			if a < 0 || a >= labels || !Good(e) {
				want = api.ErrArg
			} else {
				lists[a] = append(lists[a], e)
			}
			if errno := l.Put(a, e); errno != want {
				t.Fatalf("Put: %v, want %v", errno, want)
			}
		}
		holdLog(t, r, l, cut, lists)
	}
}

func holdLog(t *testing.T, r *rand.Rand, l *Log, cut int, lists [][]api.Entry) {
	t.Helper()
	mask := r.Uint64()
	var want []Line
	for a, list := range lists {
		head, _ := headByWords(cut, list)
		if got, errno := l.Head(a); errno != api.OK || !bytes.Equal(got, head) || l.Len(a) != len(list) {
			t.Fatalf("label %d: %x %v %d", a, got, errno, l.Len(a))
		}
		for i, e := range list {
			if mask>>a&1 != 0 {
				want = append(want, Line{Label: a, No: i + 1, Entry: e})
			}
		}
	}
	if got := l.Lines(mask); !reflect.DeepEqual(got, want) {
		t.Fatalf("Lines: %v, want %v", got, want)
	}
	if got := l.Lines(0); len(got) != 0 {
		t.Fatalf("Lines(0): %v", got)
	}
	for _, a := range []int{-1, len(lists), math.MinInt64, math.MaxInt64} {
		if got, errno := l.Head(a); errno != api.ErrArg || got != nil || l.Len(a) != 0 {
			t.Fatalf("no label %d: %x %v", a, got, errno)
		}
	}
}

// P18.3: the edges of New, and a new log.
func TestNew(t *testing.T) {
	for _, c := range []struct{ cut, labels int }{{0, 1}, {33, 1}, {-1, 1}, {1, 0}, {1, -1}, {32, 65}, {math.MaxInt64, math.MinInt64}} {
		if l, errno := New(c.cut, c.labels); l != nil || errno != api.ErrArg {
			t.Errorf("New(%d, %d): %v %v", c.cut, c.labels, l, errno)
		}
	}
	for _, c := range []struct{ cut, labels int }{{1, 1}, {32, 64}} {
		l, errno := New(c.cut, c.labels)
		if errno != api.OK {
			t.Fatalf("New(%d, %d): %v", c.cut, c.labels, errno)
		}
		if h, errno := l.Head(c.labels - 1); errno != api.OK || !bytes.Equal(h, make([]byte, c.cut)) {
			t.Errorf("the first head: %x %v", h, errno)
		}
		if l.Len(0) != 0 || len(l.Lines(math.MaxUint64)) != 0 {
			t.Error("a new log has entries")
		}
	}
}

// P18.3: a nil log.
func TestNilLog(t *testing.T) {
	var l *Log
	if errno := l.Put(0, api.Entry{User: "ann"}); errno != api.ErrArg {
		t.Errorf("Put: %v", errno)
	}
	if h, errno := l.Head(0); h != nil || errno != api.ErrArg {
		t.Errorf("Head: %v %v", h, errno)
	}
	if l.Len(0) != 0 || len(l.Lines(math.MaxUint64)) != 0 {
		t.Error("a nil log has entries")
	}
}

// R4: answers are new memory, and what is handed in stays.
func TestMemory(t *testing.T) {
	l, _ := New(4, 2)
	l.Put(1, api.Entry{User: "ann"})
	h, _ := l.Head(1)
	want := bytes.Clone(h)
	lines := l.Lines(2)
	h[0]++
	lines[0].Entry.User = "bob"
	if again, _ := l.Head(1); !bytes.Equal(again, want) {
		t.Error("Head hands out what is kept")
	}
	if again := l.Lines(2); again[0].Entry.User != "ann" {
		t.Error("Lines hands out what is kept")
	}
	none, _ := New(4, 1)
	first, _ := none.Head(0)
	first[0] = 1
	if again, _ := none.Head(0); again[0] != 0 {
		t.Error("Head hands out what is kept")
	}
	in := goodEntries()
	head, _ := Head(4, in)
	Verify(4, in, append(head, 1)[:4])
	Clash(1, in, in[:2])
	if !reflect.DeepEqual(in, goodEntries()) {
		t.Error("what was handed in was changed")
	}
}
