package service

import (
	"slices"
	"strconv"
	"strings"
	"testing"

	"mandate/api"
	"mandate/disk"
	"mandate/wal"
)

// logged is a disk whose log has payloads.
func logged(t testing.TB, payloads ...string) *disk.Disk {
	t.Helper()
	d := disk.New()
	for i, payload := range payloads {
		b, errno := wal.Record(i+1, []byte(payload))
		if errno != api.OK || d.Append("log", b) != api.OK || d.Sync("log") != api.OK {
			t.Fatalf("%q can't be written: %d", payload, errno)
		}
	}
	return d
}

// payloads are those of the log on a disk.
func payloads(t testing.TB, d *disk.Disk) []string {
	t.Helper()
	l, errno := wal.Open(d)
	if errno != api.OK {
		t.Fatalf("the log: %d", errno)
	}
	var texts []string
	for _, b := range l.All() {
		texts = append(texts, string(b))
	}
	return texts
}

// notOpened looks whether a service can't be opened, why and where.
func notOpened(t *testing.T, text string, d *disk.Disk, line int, want api.Errno) {
	t.Helper()
	if s, at, errno := Open(text, d); s != nil || at != line || errno != want {
		t.Errorf("Open of %q: %v, %d, %d, not %d, %d", text, s, at, errno, line, want)
	}
}

func TestOpenOfWrongTexts(t *testing.T) { // P23.1
	for text, want := range map[string]struct {
		line  int
		errno api.Errno
	}{
		"":                                   {0, api.ErrLine},
		"user ann low":                       {1, api.ErrName},
		"label low\n\nlabel low":             {3, api.ErrName},
		"label low\nbound 1\npurse 1 1\nx":   {4, api.ErrLine},
		strings.Repeat("#", api.MaxConfig+1): {0, api.ErrLong},
		"label a\nlabel b\nabove a b\nabove b a\nbound 1\npurse 1 1": {0, api.ErrOrder},
	} {
		d := disk.New()
		notOpened(t, text, d, want.line, want.errno)
		// What is wrong with the text goes ahead of what is wrong with the disk.
		notOpened(t, text, nil, want.line, want.errno)
		notOpened(t, text, logged(t, "x"), want.line, want.errno)
		if len(d.Files()) != 0 {
			t.Errorf("files: %v", d.Files())
		}
	}
}

func TestOpenWithoutPower(t *testing.T) { // P23.1
	notOpened(t, small, nil, 0, api.ErrDown)
	off := disk.New()
	off.Fuse(0)
	off.Append("x", []byte("x"))
	notOpened(t, small, off, 0, api.ErrDown)
	torn := logged(t, "\x02", "\x02")
	b, _ := torn.Read("log")
	torn.Cut("log", len(b)-1)
	torn.Fuse(0)
	notOpened(t, small, torn, 0, api.ErrDown)
	torn.Crash(0)
	if s := begun(t, small, torn); s.Now() != 1 {
		t.Errorf("Now: %d", s.Now())
	}
}

func TestOpenOfWrongPayloads(t *testing.T) { // P23.1
	wrong := []string{
		"", "\x00", "\x01", "\x03", "x", "\x02\x02", "\x02\x00", "\x02audit", "\x00\x00audit", "\x03\x00audit", "audit", "\x01audit",
		"\x01\x00", "\x01\x00audit ,", "\x01\x00audit audit", "\x01\x02audit", "\x01\xffaudit", "\x01\x10audit", "\x01\x00\x00audit",
		"\x01\x00revoke 2", "\x01\x01revoke 1", "\x01\x00assert none p(a).", "\x01\x01assert low p(a).", "\x01\x00assert low q(a).", "\x01\x00assert low p(X).",
		"\x01\x00query q(a)", "\x01\x00query dan says p(X)", "\x01\x00prove p(X)", "\x01\x00prove p", "\x01\x00assert low for 1099511627776 p(a).",
		"\x01\x00assert low p(a)." + strings.Repeat(" ", 900), "\x01\x00audit" + strings.Repeat(" ", api.MaxText),
	}
	good := []string{"\x02", "\x01\x00assert low p(a).", "\x01\x01audit"}
	for _, payload := range wrong {
		for at := 2; at <= len(good); at++ {
			notOpened(t, small, logged(t, slices.Insert(slices.Clone(good), at, payload)...), 0, api.ErrChain)
		}
		if !strings.Contains(payload, "for 10") {
			notOpened(t, small, logged(t, payload), 0, api.ErrChain)
		}
	}
	s := begun(t, small, logged(t, good...))
	asked(t, s, "ann: audit", "audit 1\nlow 1 ann 1 "+digest("id 1")+" assert low p(a).")
	// Of another configuration, too.
	notOpened(t, with(t, small, "user bob high\n", ""), logged(t, good...), 0, api.ErrChain)
	notOpened(t, with(t, small, "purse 9", "purse 0"), logged(t, good...), 0, api.ErrChain)
	if begun(t, with(t, small, "user bob high\n", ""), logged(t, good[:2]...)).Now() != 1 {
		t.Error("another configuration that suits the log")
	}
}

func TestOpenOfAsManyAsMayBe(t *testing.T) { // P23.1: a log may ask for no more than a user may
	var l []string
	for range api.MaxOwn {
		l = append(l, "\x01\x01assert high p(a).")
	}
	text := with(t, small, "purse 9 900", "purse 99 9900")
	if s := begun(t, text, logged(t, l...)); len(s.Live()) != api.MaxOwn {
		t.Errorf("Live: %d", len(s.Live()))
	}
	notOpened(t, text, logged(t, append(l, l[0])...), 0, api.ErrChain)
}

func TestPayloads(t *testing.T) { // P23.2: what is written, and nothing else
	d := disk.New()
	s := begun(t, small, d)
	asked(t, s,
		"ann: assert  low\tp(a).", "id 1", "dan: audit", "error 18", "ann: audit!", "error 5 at 5", "tick", "tick 1", "bob: revoke 1", "error 17",
		"bob: query p(X)", "atoms 0", "ann: prove p(b)", "deny", "ann: revoke 1", "ok", "bob: assert low p(a).", "error 15", "ann: prove p(X)", "error 14",
	)
	s.Ask("ann", "audit", true)
	if s.Checkpoint() != "ok" {
		t.Error("Checkpoint")
	}
	asked(t, s, "bob: query ann says p(X) ", "atoms 0", "tick", "tick 2")
	want := []string{"\x01\x00assert  low\tp(a).", "\x02", "\x01\x01query p(X)", "\x01\x00prove p(b)", "\x01\x00revoke 1", "\x01\x01query ann says p(X) ", "\x02"}
	if got := payloads(t, d); !slices.Equal(got, want) {
		t.Errorf("%q, not %q", got, want)
	}
}

func TestAnotherDisk(t *testing.T) { // P23.1: files that are not those of the log are left alone
	d := disk.New()
	for i := range api.MaxFiles {
		d.Append("f"+strconv.Itoa(i), []byte("x"))
	}
	s := begun(t, small, d)
	asked(t, s, "ann: audit", "error 3", "tick", "error 3", "ann: audit now", "error 6 at 6")
	if got := s.Checkpoint(); got != "error 3" {
		t.Errorf("Checkpoint: %s", got)
	}
	if s.Now() != 0 || len(s.Entries(0)) != 0 {
		t.Error("what was not written is there")
	}
	// It is no failure of the power, so that what has room is written.
	d.Remove("f0")
	asked(t, s, "ann: audit", "audit 0", "tick", "tick 1")
	if got := s.Checkpoint(); got != "error 3" {
		t.Errorf("Checkpoint: %s", got)
	}
	d.Remove("f1")
	if got := s.Checkpoint(); got != "ok" {
		t.Errorf("Checkpoint: %s", got)
	}
	if s := begun(t, small, d); s.Now() != 1 || len(s.Entries(0)) != 1 {
		t.Error("what was written is not there")
	}
}

func TestAFullLog(t *testing.T) { // P23.2, P23.4: ticks until no more can be written, and behind a checkpoint
	d := disk.New()
	s := begun(t, small, d)
	record, _ := wal.Record(1, []byte("\x02"))
	most := api.MaxFile / len(record)
	for i := range most {
		if got := s.Tick(); got != "tick "+strconv.Itoa(i+1) {
			t.Fatalf("Tick: %s", got)
		}
	}
	asked(t, s, "tick", "error 3", "ann: audit", "error 3", "dan: audit", "error 18")
	if s.Now() != int64(most) || s.Checkpoint() != "ok" {
		t.Fatalf("Now: %d", s.Now())
	}
	asked(t, s, "ann: audit", "audit 0", "tick", "tick "+strconv.Itoa(most+1))
	if got := s.Checkpoint(); got != "error 3" {
		t.Errorf("Checkpoint of more than a file may have: %s", got)
	}
	s = begun(t, small, d)
	asked(t, s, "ann: audit", "audit 1\nlow 1 ann "+strconv.Itoa(most)+" "+digest("audit 0")+" audit", "tick", "tick "+strconv.Itoa(most+2))
}

// deed is something that is done with a service, and how many bytes the record has that it writes.
type deed struct {
	do    func(*Service) string
	bytes int
}

func asks(user, text string) deed {
	return deed{func(s *Service) string { return s.Ask(user, text, false) }, 4 + 8 + 2 + len(text) + 4 + 1}
}

func TestPowerFailsInARequest(t *testing.T) { // P3, P23.4: at each unit, and whatever the crash keeps
	deeds := []deed{
		asks("ann", "assert low p(b)."), asks("ann", "revoke 1"), asks("ann", "query p(X)"), asks("bob", "prove ann says p(a)"), asks("bob", "audit"),
		{(*Service).Tick, 4 + 8 + 1 + 4 + 1},
	}
	for _, one := range deeds {
		twin := begun(t, small, disk.New())
		asked(t, twin, "ann: assert low for 1 p(a).", "id 1", "bob: query p(X)", "atoms 0")
		one.do(twin)
		after := state(t, twin)
		for units := 0; units <= one.bytes+1; units++ {
			for _, keep := range []int{-1, 0, 1, units, one.bytes - 1, one.bytes, one.bytes + 5} {
				d := disk.New()
				s := begun(t, small, d)
				asked(t, s, "ann: assert low for 1 p(a).", "id 1", "bob: query p(X)", "atoms 0")
				before := state(t, s)
				d.Fuse(units)
				answer := one.do(s)
				if units > one.bytes {
					if strings.HasPrefix(answer, "error") || !d.On() || d.Left() != 0 {
						t.Fatalf("with %d units: %s", units, answer)
					}
					d.Crash(keep)
					if again := begun(t, small, d); state(t, again) != after {
						t.Fatalf("with %d units, of which the crash keeps %d: %s, not %s", units, keep, state(t, again), after)
					}
					continue
				}
				if answer != "error 20" || state(t, s) != before {
					t.Fatalf("with %d units: %s, %s", units, answer, state(t, s))
				}
				downForEver(t, s, d)
				d.Crash(keep)
				downForEver(t, s, d)
				again := begun(t, small, d)
				want := before
				if units >= one.bytes && keep >= one.bytes {
					want = after
				}
				if got := state(t, again); got != want {
					t.Fatalf("with %d units, of which the crash keeps %d: %s, not %s", units, keep, got, want)
				}
			}
		}
	}
}

// downForEver looks that nothing is written any more, and that all that is refused is refused as ever.
func downForEver(t *testing.T, s *Service, d *disk.Disk) {
	t.Helper()
	before := state(t, s)
	asked(t, s, "ann: audit", "error 20", "tick", "error 20", "ann: revoke 9", "error 17", "ann: query p(X", "error 6 at 9", "dan: audit", "error 18")
	if got := s.Ask("ann", "audit", true); got != "error 19" {
		t.Errorf("behind a failure: %s", got)
	}
	if got := s.Checkpoint(); got != "error 20" {
		t.Errorf("Checkpoint behind a failure: %s", got)
	}
	if state(t, s) != before {
		t.Error("what is not written is done")
	}
}

func TestPowerFailsInACheckpointOrAnOpen(t *testing.T) { // P3, P23.2, P23.4
	for units := range 400 {
		for _, keep := range []int{0, 3, units, 1 << 20} {
			d := disk.New()
			s := begun(t, small, d)
			asked(t, s, "ann: assert low for 1 p(a).", "id 1", "bob: query p(X)", "atoms 0")
			if s.Checkpoint() != "ok" {
				t.Fatal("Checkpoint")
			}
			asked(t, s, "tick", "tick 1", "ann: query p(X)", "atoms 0")
			before := state(t, s)
			d.Fuse(units)
			answer := s.Checkpoint()
			if d.On() != (answer == "ok") || !d.On() && answer != "error 20" || state(t, s) != before {
				t.Fatalf("Checkpoint with %d units: %s", units, answer)
			}
			d.Crash(keep)
			d.Fuse(units % 4)
			if _, _, errno := Open(small, d); errno != api.OK && errno != api.ErrDown {
				t.Fatalf("Open with %d units: %d", units%4, errno)
			}
			d.Crash(keep)
			again := begun(t, small, d)
			if state(t, again) != before {
				t.Fatalf("with %d units, of which the crash keeps %d: %s, not %s", units, keep, state(t, again), before)
			}
			asked(t, again, "ann: assert low p(a).", "id 2")
		}
	}
}
