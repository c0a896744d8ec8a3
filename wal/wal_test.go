package wal

import (
	"bytes"
	"crypto/sha256"
	"encoding/binary"
	"math"
	"math/rand"
	"slices"
	"strconv"
	"strings"
	"testing"

	"mandate/api"
	"mandate/disk"
)

// recordByWords is a record as the chapter's words tell it, of any number and payload.
func recordByWords(n uint64, payload []byte) []byte {
	body := append(binary.BigEndian.AppendUint64(nil, n), payload...)
	sum := sha256.Sum256(body)
	b := append(binary.BigEndian.AppendUint32(nil, uint32(len(body))), body...)
	return append(append(b, sum[:4]...), 0xC5)
}

// records are those of texts, numbered from first on.
func records(first uint64, texts ...string) []byte {
	var b []byte
	for i, text := range texts {
		b = append(b, recordByWords(first+uint64(i), []byte(text))...)
	}
	return b
}

// scanByWords tells the records of bytes: of each beginning of b whether it ends with a record.
func scanByWords(b []byte) (first uint64, texts []string, end int) {
	for {
		rest := b[end:]
		if len(rest) < 4 {
			return first, texts, end
		}
		size := uint64(binary.BigEndian.Uint32(rest))
		if size < 8 || size > 8+8192 || uint64(len(rest)) < 4+size+4+1 {
			return first, texts, end
		}
		n, payload := binary.BigEndian.Uint64(rest[4:]), rest[12:4+size]
		if !bytes.HasPrefix(rest, recordByWords(n, payload)) {
			return first, texts, end
		}
		if len(texts) == 0 && (n < 1 || n > 1<<40) || len(texts) > 0 && n != first+uint64(len(texts)) {
			return first, texts, end
		}
		if len(texts) == 0 {
			first = n
		}
		texts = append(texts, string(payload))
		end += int(4 + size + 4 + 1)
	}
}

func asTexts(payloads [][]byte) []string {
	var texts []string
	for _, b := range payloads {
		texts = append(texts, string(b))
	}
	return texts
}

func want(t *testing.T, what string, got, want api.Errno) {
	t.Helper()
	if got != want {
		t.Fatalf("%s: error %d, want %d", what, got, want)
	}
}

// wantLog tells whether a log has these payloads.
func wantLog(t *testing.T, l *Log, texts ...string) {
	t.Helper()
	if l.Len() != len(texts) || !slices.Equal(asTexts(l.All()), texts) {
		t.Fatalf("%d payloads %q, want %q", l.Len(), l.All(), texts)
	}
}

// wantFiles tells whether a disk has these files: names and bytes by turns, the names in order.
func wantFiles(t *testing.T, d *disk.Disk, files ...string) {
	t.Helper()
	var got []string
	for _, name := range d.Files() {
		b, _ := d.Read(name)
		got = append(got, name, string(b))
	}
	if !slices.Equal(got, files) {
		t.Fatalf("files %q, want %q", got, files)
	}
}

func opened(t *testing.T, d *disk.Disk) *Log {
	t.Helper()
	l, errno := Open(d)
	if errno != api.OK || l == nil {
		t.Fatalf("Open: error %d", errno)
	}
	return l
}

// put writes a file that is sure.
func put(d *disk.Disk, name string, b []byte) {
	d.Append(name, b)
	d.Sync(name)
}

// P20.1: the chapter's example, written out.
func TestRecordExample(t *testing.T) {
	got, errno := Record(1, []byte("x"))
	sum := sha256.Sum256([]byte{0, 0, 0, 0, 0, 0, 0, 1, 'x'})
	example := []byte{0, 0, 0, 9, 0, 0, 0, 0, 0, 0, 0, 1, 'x', sum[0], sum[1], sum[2], sum[3], 0xC5}
	if errno != api.OK || !bytes.Equal(got, example) {
		t.Errorf("Record(1, x): %x %d, want %x", got, errno, example)
	}
}

// P20.1: numbers and payloads at the edges and beyond them.
func TestRecord(t *testing.T) {
	payloads := [][]byte{nil, {}, {0}, []byte("abc"), bytes.Repeat([]byte{0xC5}, 300), bytes.Repeat([]byte("x"), api.MaxRecord)}
	for _, n := range []int{1, 2, 255, 256, 1 << 40, 1<<40 + 1, math.MaxInt64} {
		for _, payload := range payloads {
			got, errno := Record(n, payload)
			if errno != api.OK || !bytes.Equal(got, recordByWords(uint64(n), payload)) {
				t.Errorf("Record(%d) of %d bytes: error %d", n, len(payload), errno)
			}
		}
	}
	long := make([]byte, api.MaxRecord+1)
	for _, c := range []struct {
		n       int
		payload []byte
		errno   api.Errno
	}{{0, nil, api.ErrArg}, {-1, nil, api.ErrArg}, {math.MinInt64, nil, api.ErrArg}, {1, long, api.ErrLong}, {0, long, api.ErrArg}} {
		if b, errno := Record(c.n, c.payload); b != nil || errno != c.errno {
			t.Errorf("Record(%d) of %d bytes: %v %d, want %d", c.n, len(c.payload), b, errno, c.errno)
		}
	}
}

// wantScan holds Scan against what is told, and what is told against the chapter's words.
func wantScan(t *testing.T, b []byte, first, end int, texts ...string) {
	t.Helper()
	n, words, at := scanByWords(b)
	if int(n) != first || at != end || !slices.Equal(words, texts) {
		t.Fatalf("by the words: %d %q %d, want %d %q %d", n, words, at, first, texts, end)
	}
	gotFirst, payloads, gotEnd := Scan(b)
	if gotFirst != first || gotEnd != end || !slices.Equal(asTexts(payloads), texts) {
		t.Fatalf("Scan: %d %q %d, want %d %q %d", gotFirst, payloads, gotEnd, first, texts, end)
	}
}

// P20.1: whole records, and what ends them.
func TestScan(t *testing.T) {
	wantScan(t, nil, 0, 0)
	b := records(7, "a", "", "bc")
	wantScan(t, b, 7, len(b), "a", "", "bc")
	two := len(records(7, "a", ""))
	for n := range len(b) {
		short := b[:n]
		switch {
		case n < 18:
			wantScan(t, short, 0, 0)
		case n < two:
			wantScan(t, short, 7, 18, "a")
		default:
			wantScan(t, short, 7, two, "a", "")
		}
	}
	wantScan(t, append(bytes.Clone(b), 0), 7, len(b), "a", "", "bc")
	wantScan(t, append([]byte{0}, b...), 0, 0)
	wantScan(t, append(bytes.Clone(b), b...), 7, len(b), "a", "", "bc")
	wantScan(t, append(bytes.Clone(b), records(9, "d")...), 7, len(b), "a", "", "bc")
	wantScan(t, append(bytes.Clone(b), records(11, "d")...), 7, len(b), "a", "", "bc")
	all := append(bytes.Clone(b), records(10, "d")...)
	wantScan(t, all, 7, len(all), "a", "", "bc", "d")
}

// P20.1: a record of which any bit is another one is none.
func TestScanChanged(t *testing.T) {
	b := records(1, "a", "bc")
	for i := range b {
		for bit := range 8 {
			c := bytes.Clone(b)
			c[i] ^= 1 << bit
			if i < 18 {
				wantScan(t, c, 0, 0)
			} else {
				wantScan(t, c, 1, 18, "a")
			}
		}
	}
}

// P20.1: numbers of the first record, and of those behind it.
func TestScanNumbers(t *testing.T) {
	for _, n := range []uint64{0, 1<<40 + 1, 1 << 63, math.MaxInt64, math.MaxUint64} {
		wantScan(t, records(n, "a", "b"), 0, 0)
	}
	for _, n := range []uint64{1, 2, 1<<40 - 1, 1 << 40} {
		wantScan(t, records(n, "a", "b", "c"), int(n), 54, "a", "b", "c")
	}
	wantScan(t, append(records(1, "a"), records(0, "b")...), 1, 18, "a")
	wantScan(t, append(records(1, "a"), records(1<<32+2, "b")...), 1, 18, "a")
}

// P20.1: bodies of fewer or more bytes than a record's are none, even with the right sum.
func TestScanSizes(t *testing.T) {
	full := strings.Repeat("x", api.MaxRecord)
	wantScan(t, records(1, full, "a"), 1, 17+api.MaxRecord+18, full, "a")
	wantScan(t, records(1, full+"x", "a"), 0, 0)
	for size := range 8 {
		body := make([]byte, size)
		if size > 0 {
			body[size-1] = 1
		}
		sum := sha256.Sum256(body)
		b := append(append([]byte{0, 0, 0, byte(size)}, body...), sum[:4]...)
		wantScan(t, append(b, 0xC5, 0, 0, 0, 0, 0), 0, 0)
	}
	for _, size := range []uint32{1 << 31, math.MaxUint32, 8 + api.MaxRecord + 1} {
		b := binary.BigEndian.AppendUint32(nil, size)
		wantScan(t, append(b, make([]byte, 9000)...), 0, 0)
	}
}

// P20.1: drawn bytes that are much like records.
func TestScanDrawn(t *testing.T) {
	r := rand.New(rand.NewSource(201))
	for range 20000 {
		b := drawnBytes(r)
		first, texts, end := scanByWords(b)
		wantScan(t, b, int(first), end, texts...)
	}
}

// drawnBytes are records of small numbers, now and then with something wrong.
func drawnBytes(r *rand.Rand) []byte {
	var b []byte
	n := uint64(1 + r.Intn(4))
	for range r.Intn(6) {
		b = append(b, recordByWords(n, drawnPayload(r))...)
		if r.Intn(8) > 0 {
			n++
		}
	}
	switch r.Intn(6) {
	case 0:
		b = b[:r.Intn(len(b)+1)]
	case 1:
		if len(b) > 0 {
			b[r.Intn(len(b))] ^= byte(1 << r.Intn(8))
		}
	case 2:
		b = append(b, drawnPayload(r)...)
	}
	return b
}

func drawnPayload(r *rand.Rand) []byte {
	b := make([]byte, r.Intn(4))
	r.Read(b)
	return b
}

// P20.2: what Open finds, and what it leaves.
func TestOpen(t *testing.T) {
	none := []byte(nil)
	for i, c := range []struct {
		snap, log []byte
		payloads  string // each is one letter
		kept      int    // of the log's bytes
	}{
		{none, none, "", 0},
		{none, records(1, "a", "b"), "ab", 36},
		{none, append(records(1, "a", "b"), 0), "ab", 36},
		{none, records(1, "a", "b")[:35], "a", 18},
		{none, records(2, "a", "b"), "", 0},
		{none, []byte("x"), "", 0},
		{records(1, "a", "b"), none, "ab", 0},
		{records(1, "a", "b"), records(3, "c", "d"), "abcd", 36},
		{records(1, "a", "b"), append(records(3, "c", "d"), "more"...), "abcd", 36},
		{records(1, "a", "b"), records(3, "c", "d")[:30], "abc", 18},
		{records(1, "a", "b"), records(4, "d"), "ab", 0},
		{records(1, "a", "b"), records(2, "b", "c"), "abc", 36},
		{records(1, "a", "b"), records(1, "a", "b", "c"), "abc", 54},
		{records(1, "a", "b"), records(1, "a", "b"), "ab", 36},
		{records(1, "a", "b"), records(2, "b"), "ab", 18},
		{records(1, "a", "b"), records(1, "x", "y", "c"), "abc", 54},
		{records(1, "a", "b"), records(1, "a"), "ab", 0},
		{records(1, "a", "b", "c"), records(2, "b"), "abc", 0},
		{append(records(1, "a", "b"), "more"...), records(3, "c"), "abc", 18},
		{records(1, "a", "b")[:35], records(2, "c"), "ac", 18},
		{records(2, "a", "b"), records(1, "c"), "c", 18},
		{records(2, "a", "b"), records(4, "c"), "", 0},
		{append([]byte{0}, records(1, "a")...), records(1, "c"), "c", 18},
	} {
		for _, next := range [][]byte{nil, {}, records(1, "n")} {
			d := disk.New()
			var files []string
			if c.log != nil {
				put(d, "log", c.log)
				files = append(files, "log", string(c.log[:c.kept]))
			}
			if c.snap != nil {
				put(d, "snap", c.snap)
				files = append(files, "snap", string(c.snap))
			}
			units := 0
			if next != nil {
				put(d, "next", next)
				units++
			}
			if len(c.log) > c.kept {
				units++
			}
			// With a unit less Open does not come to its end, wherever it is cut off, and the next one does.
			for n := range units {
				d.Fuse(n)
				if l, errno := Open(d); l != nil || errno != api.ErrDown {
					t.Fatalf("%d: Open: error %d", i, errno)
				}
				d.Crash(0)
				if units == 2 && n == 1 {
					put(d, "next", next)
				}
			}
			d.Fuse(units)
			l := opened(t, d)
			if d.Left() != 0 {
				t.Fatalf("%d: %d units left", i, d.Left())
			}
			if got := strings.Join(asTexts(l.All()), ""); got != c.payloads || l.Len() != len(c.payloads) {
				t.Fatalf("%d: payloads %q, want %q", i, got, c.payloads)
			}
			wantFiles(t, d, files...)
		}
	}
}

// P20.2: without power nothing is opened.
func TestOpenDown(t *testing.T) {
	d := disk.New()
	put(d, "log", records(1, "a"))
	d.Fuse(0)
	d.Sync("log")
	for _, d := range []*disk.Disk{d, nil} {
		if l, errno := Open(d); l != nil || errno != api.ErrDown {
			t.Errorf("Open: error %d", errno)
		}
	}
	d.Crash(0)
	d.Fuse(0)
	wantLog(t, opened(t, d), "a")
}

// P20.3: what Append writes, and what it costs.
func TestAppend(t *testing.T) {
	d := disk.New()
	l := opened(t, d)
	wantLog(t, l)
	wantFiles(t, d)
	d.Fuse(19)
	want(t, "Append", l.Append([]byte("a")), api.OK)
	if d.Left() != 0 {
		t.Errorf("%d units left", d.Left())
	}
	wantLog(t, l, "a")
	d.Fuse(-1)
	want(t, "Append of nothing", l.Append(nil), api.OK)
	full := strings.Repeat("x", api.MaxRecord)
	want(t, "Append", l.Append([]byte(full)), api.OK)
	want(t, "a payload too long", l.Append([]byte(full+"x")), api.ErrLong)
	wantLog(t, l, "a", "", full)
	// What was answered is sure.
	d.Crash(0)
	wantFiles(t, d, "log", string(records(1, "a", "", full)))
	want(t, "Append behind a crash that it did not see", l.Append([]byte("b")), api.OK)
	wantLog(t, opened(t, d), "a", "", full, "b")
}

// P20.3: behind an ErrDown of its own a log does nothing any more; a too long payload is told ahead of the disk's error.
func TestAppendDown(t *testing.T) {
	long := make([]byte, api.MaxRecord+1)
	for units := range 19 {
		d := disk.New()
		l := opened(t, d)
		want(t, "Append", l.Append([]byte("a")), api.OK)
		d.Fuse(units)
		want(t, "a payload too long", l.Append(long), api.ErrLong)
		want(t, "Append", l.Append([]byte("b")), api.ErrDown)
		want(t, "a payload too long", l.Append(long), api.ErrDown)
		d.Crash(units % 7)
		files := string(records(1, "a", "b")[:18+min(units, units%7)])
		want(t, "Append behind the crash", l.Append([]byte("c")), api.ErrDown)
		want(t, "Checkpoint behind the crash", l.Checkpoint(), api.ErrDown)
		wantFiles(t, d, "log", files)
		wantLog(t, l, "a")
		wantLog(t, opened(t, d), "a")
	}
	d := disk.New()
	l := opened(t, d)
	d.Fuse(0)
	d.Append("other", []byte("x"))
	want(t, "a payload too long, the power off by another's act", l.Append(long), api.ErrLong)
	d.Crash(0)
	want(t, "Append", l.Append([]byte("a")), api.OK)
	wantLog(t, l, "a")
}

// P20.3: the disk's other error is told, and nothing is changed; a checkpoint makes room.
func TestAppendFull(t *testing.T) {
	d := disk.New()
	for _, name := range strings.Split("a b c d e f g h", " ") {
		d.Append(name, nil)
	}
	l := opened(t, d)
	want(t, "Append, no room for the file", l.Append([]byte("x")), api.ErrFull)
	want(t, "Checkpoint, no room for the file", l.Checkpoint(), api.ErrFull)
	d.Remove("a")
	want(t, "Append", l.Append([]byte("x")), api.OK)
	want(t, "Checkpoint, no room for the file", l.Checkpoint(), api.ErrFull)
	d.Remove("b")
	want(t, "Checkpoint", l.Checkpoint(), api.OK)
	wantLog(t, l, "x")
	wantLog(t, opened(t, d), "x")
}

// P20.3: a log of as many bytes as a file may have, and a checkpoint of them.
func TestFull(t *testing.T) {
	d := disk.New()
	l := opened(t, d)
	var texts []string
	add := func(size int, errno api.Errno) {
		t.Helper()
		text := strings.Repeat("x", size)
		want(t, "Append", l.Append([]byte(text)), errno)
		if errno == api.OK {
			texts = append(texts, text)
		}
	}
	for range 127 {
		add(api.MaxRecord, api.OK)
	}
	rest := api.MaxFile - 127*(17+api.MaxRecord)
	add(rest-16, api.ErrFull)
	add(rest-17, api.OK)
	add(0, api.ErrFull)
	want(t, "Checkpoint of a full file", l.Checkpoint(), api.OK)
	all := string(records(1, texts...))
	if len(all) != api.MaxFile {
		t.Fatalf("%d bytes", len(all))
	}
	wantFiles(t, d, "log", "", "snap", all)
	add(0, api.OK)
	// Not even without power it goes to the disk.
	d.Fuse(0)
	d.Sync("log")
	want(t, "Checkpoint of a record more", l.Checkpoint(), api.ErrFull)
	d.Crash(0)
	wantFiles(t, d, "log", string(recordByWords(129, nil)), "snap", all)
	wantLog(t, l, texts...)
	add(3, api.OK)
	wantLog(t, opened(t, d), texts...)
}

// P20.3: what Checkpoint writes, act by act.
func TestCheckpoint(t *testing.T) {
	d := disk.New()
	l := opened(t, d)
	d.Fuse(2)
	want(t, "Checkpoint of nothing, with no log", l.Checkpoint(), api.OK)
	wantFiles(t, d, "snap", "")
	d.Fuse(-1)
	want(t, "Append", l.Append([]byte("a")), api.OK)
	one := string(records(1, "a"))
	wantFiles(t, d, "log", one, "snap", "")
	d.Fuse(18 + 3)
	want(t, "Checkpoint", l.Checkpoint(), api.OK)
	if d.Left() != 0 {
		t.Errorf("%d units left", d.Left())
	}
	wantFiles(t, d, "log", "", "snap", one)
	wantLog(t, l, "a")
	d.Fuse(18 + 3)
	want(t, "Checkpoint with an empty log", l.Checkpoint(), api.OK)
	if d.Left() != 0 {
		t.Errorf("%d units left", d.Left())
	}
	d.Fuse(-1)
	want(t, "Append", l.Append([]byte("b")), api.OK)
	two := string(records(1, "a", "b"))
	wantFiles(t, d, "log", string(records(2, "b")), "snap", one)
	want(t, "Checkpoint", l.Checkpoint(), api.OK)
	wantFiles(t, d, "log", "", "snap", two)
	d.Crash(0)
	wantFiles(t, d, "log", "", "snap", two)
	wantLog(t, opened(t, d), "a", "b")
}

// P20.3: where the power fails in Checkpoint, and what is there then.
func TestCheckpointDown(t *testing.T) {
	all := string(records(1, "a", "b"))
	log, one := string(records(2, "b")), string(records(1, "a"))
	for units := range 36 + 3 {
		for _, keep := range []int{0, 5, 100} {
			d := disk.New()
			l := opened(t, d)
			want(t, "Append", l.Append([]byte("a")), api.OK)
			want(t, "Checkpoint", l.Checkpoint(), api.OK)
			want(t, "Append", l.Append([]byte("b")), api.OK)
			d.Fuse(units)
			want(t, "Checkpoint", l.Checkpoint(), api.ErrDown)
			want(t, "Checkpoint again", l.Checkpoint(), api.ErrDown)
			d.Crash(keep)
			want(t, "Checkpoint behind the crash", l.Checkpoint(), api.ErrDown)
			want(t, "Append behind the crash", l.Append(nil), api.ErrDown)
			wantLog(t, l, "a", "b")
			switch {
			case units <= 36:
				wantFiles(t, d, "log", log, "next", all[:min(units, keep, 36)], "snap", one)
			case units == 37:
				wantFiles(t, d, "log", log, "next", all, "snap", one)
			default:
				wantFiles(t, d, "log", log, "snap", all)
			}
			wantLog(t, opened(t, d), "a", "b")
		}
	}
}

// P20.3: a nil log.
func TestNilLog(t *testing.T) {
	var l *Log
	want(t, "Append", l.Append(make([]byte, api.MaxRecord+1)), api.ErrDown)
	want(t, "Checkpoint", l.Checkpoint(), api.ErrDown)
	wantLog(t, l)
}

// byWords is a log whose acts are written down as the chapter tells them, on a disk of its own.
type byWords struct {
	d     *disk.Disk
	texts []string
	down  bool
}

func (w *byWords) read(name string) []byte {
	b, _ := w.d.Read(name)
	return b
}

func (w *byWords) open() api.Errno {
	w.texts, w.down = nil, false
	if slices.Contains(w.d.Files(), "next") {
		if errno := w.d.Remove("next"); errno != api.OK {
			return errno
		}
	}
	if !w.d.On() {
		return api.ErrDown
	}
	if first, texts, _ := scanByWords(w.read("snap")); first == 1 {
		w.texts = texts
	}
	n, end := uint64(len(w.texts)), 0
	first, texts, to := scanByWords(w.read("log"))
	if last := first + uint64(len(texts)) - 1; first >= 1 && first <= n+1 && last >= n {
		for i, text := range texts {
			if first+uint64(i) > n {
				w.texts = append(w.texts, text)
			}
		}
		end = to
	}
	if len(w.read("log")) > end {
		return w.d.Cut("log", end)
	}
	return api.OK
}

// first does acts up to the first error.
func (w *byWords) first(acts ...func() api.Errno) api.Errno {
	for _, act := range acts {
		if errno := act(); errno != api.OK {
			w.down = errno == api.ErrDown
			return errno
		}
	}
	return api.OK
}

func (w *byWords) append(text string) api.Errno {
	if w.down {
		return api.ErrDown
	}
	b := recordByWords(uint64(len(w.texts)+1), []byte(text))
	errno := w.first(
		func() api.Errno { return w.d.Append("log", b) },
		func() api.Errno { return w.d.Sync("log") })
	if errno == api.OK {
		w.texts = append(w.texts, text)
	}
	return errno
}

func (w *byWords) checkpoint() api.Errno {
	if w.down {
		return api.ErrDown
	}
	return w.first(
		func() api.Errno { return w.d.Append("next", records(1, w.texts...)) },
		func() api.Errno { return w.d.Sync("next") },
		func() api.Errno { return w.d.Rename("next", "snap") },
		func() api.Errno {
			if w.d.On() && !slices.Contains(w.d.Files(), "log") {
				return api.OK
			}
			return w.d.Cut("log", 0)
		})
}

func sameDisks(t *testing.T, d, e *disk.Disk) {
	t.Helper()
	if d.On() != e.On() || d.Left() != e.Left() {
		t.Fatalf("power %v %d, want %v %d", d.On(), d.Left(), e.On(), e.Left())
	}
	var files []string
	for _, name := range e.Files() {
		b, _ := e.Read(name)
		files = append(files, name, string(b))
	}
	wantFiles(t, d, files...)
}

// P20.2, P20.3: a log, and one that goes by the words, on two disks with the same files of drawn bytes and the same power.
func TestAsTheWordsSay(t *testing.T) {
	r := rand.New(rand.NewSource(202))
	for range 4000 {
		d, w := disk.New(), &byWords{d: disk.New()}
		for _, name := range []string{"snap", "log", "next"} {
			if r.Intn(3) > 0 {
				b := drawnBytes(r)
				put(d, name, b)
				put(w.d, name, b)
			}
		}
		for range 5 {
			units, keep := r.Intn(80)-1, r.Intn(40)-1
			d.Fuse(units)
			w.d.Fuse(units)
			l, errno := Open(d)
			want(t, "Open", errno, w.open())
			if (l == nil) != (errno != api.OK) {
				t.Fatal("a log beside an error")
			}
			sameDisks(t, d, w.d)
			for range r.Intn(8) {
				if l == nil {
					break
				}
				sameSteps(t, r, l, w)
				sameDisks(t, d, w.d)
			}
			d.Crash(keep)
			w.d.Crash(keep)
			sameDisks(t, d, w.d)
		}
	}
}

// sameSteps does a step on both.
func sameSteps(t *testing.T, r *rand.Rand, l *Log, w *byWords) {
	t.Helper()
	switch r.Intn(5) {
	case 0:
		want(t, "Checkpoint", l.Checkpoint(), w.checkpoint())
	default:
		payload := drawnPayload(r)
		want(t, "Append", l.Append(payload), w.append(string(payload)))
	}
	wantLog(t, l, w.texts...)
}

// played does steps on a disk till one answers ErrDown: each letter is appended, a ! is a checkpoint. It tells what was answered OK, and what was under way.
func played(d *disk.Disk, steps string) (sure []string, under string, errno api.Errno) {
	l, errno := Open(d)
	if errno != api.OK {
		return nil, "", errno
	}
	for _, step := range strings.Split(steps, "") {
		if step == "!" {
			errno = l.Checkpoint()
		} else if errno = l.Append([]byte(step)); errno == api.OK {
			sure = append(sure, step)
		} else {
			under = step
		}
		if errno != api.OK {
			return sure, under, errno
		}
	}
	return sure, "", api.OK
}

// wantStays tells whether a log has what was answered, and perhaps what was under way.
func wantStays(t *testing.T, what string, l *Log, sure []string, under string) {
	t.Helper()
	got := asTexts(l.All())
	if slices.Equal(got, sure) || under != "" && slices.Equal(got, append(slices.Clone(sure), under)) {
		return
	}
	t.Fatalf("%s: %q, want %q, and perhaps %q", what, got, sure, under)
}

// P20.4: wherever the power fails, there and in the Open behind it, and whatever is kept.
func TestWhatWasAnsweredStays(t *testing.T) {
	failed := map[bool]int{}
	for _, steps := range []string{"a", "ab", "a!b", "!a", "ab!c!d", "a!b!!c", "!!abc!"} {
		for units := 0; ; units++ {
			d := disk.New()
			d.Fuse(units)
			_, _, errno := played(d, steps)
			if errno == api.OK {
				break
			}
			want(t, steps, errno, api.ErrDown)
			for keep := -1; keep < 40; keep++ {
				for again := range 4 {
					d := disk.New()
					d.Fuse(units)
					sure, under, _ := played(d, steps)
					d.Crash(keep)
					what := steps + " with " + strconv.Itoa(units) + ", kept " + strconv.Itoa(keep)
					d.Fuse(again)
					_, errno := Open(d)
					failed[errno == api.ErrDown]++
					d.Crash(keep)
					l := opened(t, d)
					wantStays(t, what, l, sure, under)
					// What goes on stands behind what was found, whatever stays.
					sure = asTexts(l.All())
					want(t, what, l.Append([]byte("z")), api.OK)
					d.Crash(0)
					wantStays(t, what+", z", opened(t, d), append(sure, "z"), "")
				}
			}
		}
	}
	if failed[true] < 100 || failed[false] < 100 {
		t.Errorf("Open failed %d times, did not %d times", failed[true], failed[false])
	}
}

// P20.4: long rows of failures on one disk.
func TestManyFailures(t *testing.T) {
	r := rand.New(rand.NewSource(204))
	for range 300 {
		d := disk.New()
		var sure []string
		under := ""
		for i := range 60 {
			d.Fuse(r.Intn(120) - 5)
			l, errno := Open(d)
			if errno == api.OK {
				wantStays(t, "row "+strconv.Itoa(i), l, sure, under)
				sure, under = asTexts(l.All()), ""
			}
			for range r.Intn(6) {
				if l == nil || errno != api.OK {
					break
				}
				text := strconv.Itoa(i)
				if r.Intn(4) == 0 {
					errno = l.Checkpoint()
				} else if errno = l.Append([]byte(text)); errno == api.OK {
					sure = append(sure, text)
				} else {
					under = text
				}
			}
			d.Crash(r.Intn(60) - 1)
		}
	}
}

// R4: neither what is handed in nor what is handed out is shared.
func TestShared(t *testing.T) {
	b := append(make([]byte, 0, 9), "ab"...)
	rec, _ := Record(1, b)
	rec[12] = 'x'
	d := disk.New()
	l := opened(t, d)
	want(t, "Append", l.Append(b), api.OK)
	want(t, "Append", l.Append([]byte("cd")), api.OK)
	if !bytes.Equal(b[:9], []byte("ab\x00\x00\x00\x00\x00\x00\x00")) {
		t.Errorf("changed: %q", b[:9])
	}
	b[0] = 'x'
	all := l.All()
	all[0][0], all[1] = 'y', nil
	wantLog(t, l, "ab", "cd")
	all = l.All()
	_ = append(all[0], "zzz"...)
	if string(all[1]) != "cd" {
		t.Error("two payloads share memory")
	}
	room := records(1, "ab", "cd")
	was := bytes.Clone(room)
	_, payloads, _ := Scan(room)
	payloads[0][0] = 'x'
	_ = append(payloads[0], "zzzz"...)
	if !bytes.Equal(room, was) || string(payloads[1]) != "cd" {
		t.Error("Scan's payloads are its bytes")
	}
	clear(room)
	if string(payloads[1]) != "cd" {
		t.Error("Scan's payloads are its bytes")
	}
}
