package disk

import (
	"bytes"
	"math"
	"math/rand"
	"reflect"
	"slices"
	"strings"
	"testing"

	"mandate/api"
)

// cell is a byte of a file, and whether it is sure.
type cell struct {
	b    byte
	sure bool
}

// plain is a disk by the chapter's words: files in a list, units taken one by one.
type plain struct {
	names []string
	cells [][]cell
	off   bool
	ever  bool
	left  int
}

func (p *plain) unit() bool {
	if p.ever {
		return true
	}
	if p.left == 0 {
		p.off = true
		return false
	}
	p.left--
	return true
}

func (p *plain) at(name string) int { return slices.Index(p.names, name) }

// isName knows the names that the tests draw.
func isName(s string) bool { return slices.Contains(goodNames, s) }

var goodNames = []string{"log", "snap", "next", "a", "b", "c_1", "d", "e", "f", strings.Repeat("g", api.MaxName)}

var badNames = []string{"", "Log", "not", "says", "1a", "_", "a b", "a.b", "a\n", "\xff", strings.Repeat("g", api.MaxName+1)}

func (p *plain) append(name string, b []byte) api.Errno {
	if p.off {
		return api.ErrDown
	}
	if !isName(name) {
		return api.ErrArg
	}
	i := p.at(name)
	if i < 0 && len(p.names) >= 8 || i < 0 && len(b) > 1<<20 || i >= 0 && len(p.cells[i])+len(b) > 1<<20 {
		return api.ErrFull
	}
	if i < 0 {
		p.names, p.cells = append(p.names, name), append(p.cells, nil)
		i = len(p.names) - 1
	}
	for _, x := range b {
		if !p.unit() {
			return api.ErrDown
		}
		p.cells[i] = append(p.cells[i], cell{x, false})
	}
	return api.OK
}

// ahead is what is asked ahead of an act on a file that must be there.
func (p *plain) ahead(name string) (int, api.Errno) {
	if p.off {
		return 0, api.ErrDown
	}
	if p.at(name) < 0 {
		return 0, api.ErrNone
	}
	return p.at(name), api.OK
}

func (p *plain) remove(i int) {
	p.names, p.cells = slices.Delete(p.names, i, i+1), slices.Delete(p.cells, i, i+1)
}

// act does one of the four acts that need one unit.
func (p *plain) act(what, name, to string, n int) api.Errno {
	i, errno := p.ahead(name)
	switch {
	case errno != api.OK:
		return errno
	case what == "rename" && !isName(to), what == "cut" && (n < 0 || n > len(p.cells[i])):
		return api.ErrArg
	case !p.unit():
		return api.ErrDown
	}
	switch what {
	case "sync":
		for j := range p.cells[i] {
			p.cells[i][j].sure = true
		}
	case "rename":
		if j := p.at(to); j >= 0 && j != i {
			p.remove(j)
		}
		p.names[p.at(name)] = to
	case "cut":
		p.cells[i] = p.cells[i][:n]
	case "remove":
		p.remove(i)
	}
	return api.OK
}

func (p *plain) crash(keep int) {
	p.off, p.ever = false, true
	for i, l := range p.cells {
		var kept []cell
		wet := 0
		for _, c := range l {
			if !c.sure {
				wet++
			}
			if c.sure || wet <= keep {
				kept = append(kept, cell{c.b, true})
			}
		}
		p.cells[i] = kept
	}
}

func (p *plain) fuse(n int) {
	if !p.off {
		p.ever, p.left = n < 0, max(n, 0)
	}
}

// hold asks the disk all that can be asked.
func (p *plain) hold(t *testing.T, d *Disk) {
	t.Helper()
	left := p.left
	if p.off {
		left = 0
	} else if p.ever {
		left = -1
	}
	if d.On() == p.off || d.Left() != left {
		t.Fatalf("on %v, left %d, want %v, %d", d.On(), d.Left(), !p.off, left)
	}
	var names []string
	if !p.off {
		names = slices.Sorted(slices.Values(p.names))
	}
	if got := d.Files(); !slices.Equal(got, names) {
		t.Fatalf("Files: %q, want %q", got, names)
	}
	for _, name := range slices.Concat(goodNames, badNames) {
		i, want := p.ahead(name)
		got, errno := d.Read(name)
		if errno != want || errno != api.OK && got != nil {
			t.Fatalf("Read(%q): %v, want %v", name, errno, want)
		}
		if errno == api.OK && !slices.EqualFunc(got, p.cells[i], func(b byte, c cell) bool { return b == c.b }) {
			t.Fatalf("Read(%q): %q, want %v", name, got, p.cells[i])
		}
	}
}

func drawName(r *rand.Rand, p *plain) string {
	switch n := r.Intn(20); {
	case n == 0:
		return badNames[r.Intn(len(badNames))]
	case n < 9 && len(p.names) > 0:
		return p.names[r.Intn(len(p.names))]
	}
	return goodNames[r.Intn(len(goodNames))]
}

// P19.1, P19.2, P19.3: rows of drawn acts on a disk and on a plain one.
func TestAsTheWordsSay(t *testing.T) {
	r := rand.New(rand.NewSource(19))
	seen := map[api.Errno]int{}
	for range 2000 {
		d, p := New(), &plain{ever: true}
		p.hold(t, d)
		for range 100 {
			got, want := drawnAct(r, d, p)
			if got != want {
				t.Fatalf("error %d, want %d", got, want)
			}
			seen[got]++
			p.hold(t, d)
		}
	}
	for _, errno := range []api.Errno{api.OK, api.ErrDown, api.ErrArg, api.ErrNone, api.ErrFull} {
		if seen[errno] < 100 {
			t.Errorf("error %d only %d times", errno, seen[errno])
		}
	}
}

// drawnAct does the same to both.
func drawnAct(r *rand.Rand, d *Disk, p *plain) (got, want api.Errno) {
	name, to, n := drawName(r, p), drawName(r, p), r.Intn(9)-1
	switch what := r.Intn(18); {
	case what < 8:
		b := make([]byte, r.Intn(6))
		r.Read(b)
		return d.Append(name, b), p.append(name, b)
	case what < 10:
		return d.Sync(name), p.act("sync", name, "", 0)
	case what < 12:
		return d.Rename(name, to), p.act("rename", name, to, 0)
	case what < 14:
		return d.Cut(name, n), p.act("cut", name, "", n)
	case what < 15:
		return d.Remove(name), p.act("remove", name, "", 0)
	case what < 17:
		if n = r.Intn(40) - 1; n == 38 {
			n = math.MinInt64
		}
		d.Fuse(n)
		p.fuse(n)
	case r.Intn(3) == 0 || p.off:
		if n == 7 {
			n = []int{math.MaxInt64, math.MinInt64}[r.Intn(2)]
		}
		d.Crash(n)
		p.crash(n)
	}
	return api.OK, api.OK
}

func want(t *testing.T, what string, got, want api.Errno) {
	t.Helper()
	if got != want {
		t.Errorf("%s: error %d, want %d", what, got, want)
	}
}

// wantFile tells whether a file has these bytes.
func wantFile(t *testing.T, d *Disk, name, text string) {
	t.Helper()
	if b, errno := d.Read(name); errno != api.OK || string(b) != text {
		t.Errorf("Read(%s): %q %d, want %q", name, b, errno, text)
	}
}

// P19.1 to P19.3: the chapter's examples.
func TestExamples(t *testing.T) {
	d := New()
	want(t, "Append", d.Append("a", []byte("xy")), api.OK)
	want(t, "Sync", d.Sync("a"), api.OK)
	want(t, "Append", d.Append("a", []byte("zw")), api.OK)
	d.Crash(1)
	wantFile(t, d, "a", "xyz")
	d.Fuse(1)
	want(t, "Append", d.Append("a", []byte("pq")), api.ErrDown)
	d.Crash(9)
	wantFile(t, d, "a", "xyzp")
}

// P19.1: with no units left the power is there, till an act needs one.
func TestFuse(t *testing.T) {
	d := New()
	if !d.On() || d.Left() != -1 || len(d.Files()) != 0 {
		t.Errorf("a new disk: %v %d %q", d.On(), d.Left(), d.Files())
	}
	d.Fuse(3)
	want(t, "Append", d.Append("a", []byte("xyz")), api.OK)
	if !d.On() || d.Left() != 0 {
		t.Errorf("with no units: %v %d", d.On(), d.Left())
	}
	want(t, "an empty Append without units", d.Append("b", nil), api.OK)
	want(t, "a wrong Append without units", d.Append("A", nil), api.ErrArg)
	want(t, "Sync of no file without units", d.Sync("c"), api.ErrNone)
	want(t, "a wrong Cut without units", d.Cut("a", 4), api.ErrArg)
	wantFile(t, d, "a", "xyz")
	want(t, "Sync without units", d.Sync("a"), api.ErrDown)
	d.Fuse(5)
	if d.On() || d.Left() != 0 || len(d.Files()) != 0 {
		t.Errorf("the power is off: %v %d %q", d.On(), d.Left(), d.Files())
	}
	d.Crash(-1)
	if !d.On() || d.Left() != -1 || !slices.Equal(d.Files(), []string{"a", "b"}) {
		t.Errorf("behind a crash: %v %d %q", d.On(), d.Left(), d.Files())
	}
	wantFile(t, d, "a", "")
	for _, n := range []int{-1, -7, math.MinInt64} {
		d.Fuse(0)
		d.Fuse(n)
		if d.Left() != -1 {
			t.Errorf("Fuse(%d): %d", n, d.Left())
		}
	}
	d.Fuse(math.MaxInt64)
	want(t, "Remove", d.Remove("b"), api.OK)
	if d.Left() != math.MaxInt64-1 {
		t.Errorf("one less than most: %d", d.Left())
	}
}

// P19.2: how many units an act needs, and that nothing is done, if there are fewer.
func TestUnits(t *testing.T) {
	acts := []struct {
		what  string
		units int
		act   func(d *Disk) api.Errno
	}{
		{"Append", 3, func(d *Disk) api.Errno { return d.Append("a", []byte("xyz")) }},
		{"Sync", 1, func(d *Disk) api.Errno { return d.Sync("a") }},
		{"Rename", 1, func(d *Disk) api.Errno { return d.Rename("a", "b") }},
		{"Rename to itself", 1, func(d *Disk) api.Errno { return d.Rename("a", "a") }},
		{"Cut", 1, func(d *Disk) api.Errno { return d.Cut("a", 1) }},
		{"Cut of nothing", 1, func(d *Disk) api.Errno { return d.Cut("a", 4) }},
		{"Remove", 1, func(d *Disk) api.Errno { return d.Remove("a") }},
	}
	for _, c := range acts {
		for _, more := range []int{-1, 0, 1} {
			d := New()
			d.Append("a", []byte("12"))
			d.Sync("a")
			d.Append("a", []byte("34"))
			d.Fuse(c.units + more)
			if more >= 0 {
				want(t, c.what, c.act(d), api.OK)
				if !d.On() || d.Left() != more {
					t.Errorf("%s: %d left, want %d", c.what, d.Left(), more)
				}
				continue
			}
			want(t, c.what, c.act(d), api.ErrDown)
			want(t, c.what+" again", c.act(d), api.ErrDown)
			d.Crash(0)
			wantFile(t, d, "a", "12")
			if f := d.Files(); !slices.Equal(f, []string{"a"}) {
				t.Errorf("%s: files %q", c.what, f)
			}
		}
	}
}

// P19.2: the file that Append begins is there even if the power fails at once.
func TestAppendBegins(t *testing.T) {
	d := New()
	d.Fuse(0)
	want(t, "Append", d.Append("a", []byte("x")), api.ErrDown)
	d.Crash(math.MaxInt64)
	wantFile(t, d, "a", "")
	want(t, "Append of nothing", d.Append("b", []byte{}), api.OK)
	wantFile(t, d, "b", "")
}

// P19.2: as many files, and as many bytes of one, as the limits say.
func TestLimits(t *testing.T) {
	d := New()
	most := make([]byte, api.MaxFile)
	want(t, "a file with a byte too many", d.Append("a", append(most, 0)), api.ErrFull)
	if len(d.Files()) != 0 {
		t.Error("it is there")
	}
	want(t, "a file that is full", d.Append("a", most), api.OK)
	d.Fuse(0)
	want(t, "a byte more", d.Append("a", []byte{0}), api.ErrFull)
	want(t, "none more", d.Append("a", nil), api.OK)
	d.Fuse(-1)
	d.Cut("a", api.MaxFile-1)
	want(t, "two bytes more", d.Append("a", []byte{0, 0}), api.ErrFull)
	want(t, "one byte more", d.Append("a", []byte{0}), api.OK)
	for _, name := range strings.Split("b c d e f g h", " ") {
		want(t, "Append", d.Append(name, nil), api.OK)
	}
	want(t, "a ninth file", d.Append("i", nil), api.ErrFull)
	want(t, "a ninth file that is no name", d.Append("I", nil), api.ErrArg)
	want(t, "one that is there", d.Append("h", []byte("x")), api.OK)
	want(t, "Rename", d.Rename("h", "i"), api.OK)
	want(t, "Append", d.Append("h", nil), api.ErrFull)
	want(t, "Rename onto another", d.Rename("i", "g"), api.OK)
	want(t, "Append", d.Append("h", nil), api.OK)
	wantFile(t, d, "g", "x")
	want(t, "Remove", d.Remove("h"), api.OK)
	want(t, "Append", d.Append("i", nil), api.OK)
}

// P19.2: of several errors the one that is told first.
func TestErrors(t *testing.T) {
	d := New()
	d.Append("a", []byte("x"))
	d.Fuse(0)
	for _, name := range append([]string{"b"}, badNames...) {
		want(t, "Sync", d.Sync(name), api.ErrNone)
		want(t, "Rename", d.Rename(name, ""), api.ErrNone)
		want(t, "Cut", d.Cut(name, -1), api.ErrNone)
		want(t, "Remove", d.Remove(name), api.ErrNone)
	}
	for _, name := range badNames {
		want(t, "Append", d.Append(name, make([]byte, api.MaxFile+1)), api.ErrArg)
		want(t, "Rename", d.Rename("a", name), api.ErrArg)
	}
	for _, n := range []int{-1, 2, math.MinInt64, math.MaxInt64} {
		want(t, "Cut", d.Cut("a", n), api.ErrArg)
	}
	want(t, "Remove", d.Remove("a"), api.ErrDown)
	want(t, "Append", d.Append("", nil), api.ErrDown)
	want(t, "Sync", d.Sync("b"), api.ErrDown)
	want(t, "Rename", d.Rename("b", ""), api.ErrDown)
	want(t, "Cut", d.Cut("a", -1), api.ErrDown)
	want(t, "Remove", d.Remove("b"), api.ErrDown)
}

// P19.3: what a crash keeps, of each file for itself; and what is cut or renamed.
func TestCrash(t *testing.T) {
	kept := func(keep int) (texts []string) {
		d := New()
		d.Append("a", []byte("12"))
		d.Sync("a")
		d.Append("a", []byte("34"))
		d.Append("b", []byte("567"))
		d.Append("c", []byte("89"))
		d.Sync("c")
		d.Cut("c", 1)
		d.Append("c", []byte("x"))
		d.Rename("c", "d")
		d.Crash(keep)
		for _, name := range d.Files() {
			b, _ := d.Read(name)
			texts = append(texts, name+string(b))
		}
		// What is kept is sure.
		d.Crash(0)
		for i, name := range d.Files() {
			wantFile(t, d, name, texts[i][1:])
		}
		return texts
	}
	all := []string{"a1234", "b567", "d8x"}
	for keep, texts := range map[int][]string{
		math.MinInt64: {"a12", "b", "d8"},
		-1:            {"a12", "b", "d8"},
		0:             {"a12", "b", "d8"},
		1:             {"a123", "b5", "d8x"},
		2:             {"a1234", "b56", "d8x"},
		3:             all,
		4:             all,
		math.MaxInt64: all,
	} {
		if got := kept(keep); !reflect.DeepEqual(got, texts) {
			t.Errorf("Crash(%d): %q, want %q", keep, got, texts)
		}
	}
}

// P19.3: a nil disk is off, and stays so.
func TestNilDisk(t *testing.T) {
	var d *Disk
	for range 2 {
		if d.On() || d.Left() != 0 || len(d.Files()) != 0 {
			t.Error("a nil disk has power")
		}
		if b, errno := d.Read("a"); b != nil || errno != api.ErrDown {
			t.Errorf("Read: %v %d", b, errno)
		}
		want(t, "Append", d.Append("", nil), api.ErrDown)
		want(t, "Sync", d.Sync("a"), api.ErrDown)
		want(t, "Rename", d.Rename("a", "b"), api.ErrDown)
		want(t, "Cut", d.Cut("a", 0), api.ErrDown)
		want(t, "Remove", d.Remove("a"), api.ErrDown)
		d.Fuse(3)
		d.Crash(3)
	}
}

// R4: neither what is handed in nor what is handed out is shared.
func TestShared(t *testing.T) {
	d := New()
	b := append(make([]byte, 0, 9), "abc"...)
	d.Append("a", b)
	b[0] = 'x'
	got, _ := d.Read("a")
	got[1] = 'y'
	_ = append(got[:2], 'z')
	wantFile(t, d, "a", "abc")
	d.Append("a", []byte("d"))
	if !bytes.Equal(b[:9], []byte("xbc\x00\x00\x00\x00\x00\x00")) {
		t.Errorf("changed: %q", b[:9])
	}
	one, _ := d.Read("a")
	d.Cut("a", 1)
	d.Append("a", []byte("XYZ"))
	if string(one) != "abcd" {
		t.Errorf("an answer was changed: %q", one)
	}
	names := d.Files()
	names[0] = "q"
	if d.Files()[0] != "a" {
		t.Error("the names are shared")
	}
	e := New()
	e.Append("b", nil)
	if len(d.Files()) != 1 {
		t.Error("two disks are one")
	}
}
