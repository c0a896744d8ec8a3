package live

import (
	"math/rand"
	"reflect"
	"slices"
	"testing"

	"mandate/api"
	"mandate/lower"
	"mandate/sound"
)

// told is an assertion as the chapter's words have it: whether it is live is not kept, but worked out of all that was done.
type told struct {
	api.Said
	cost    complex128
	revoked bool
}

// plain is all assertions that there ever were, and the time.
type plain struct {
	c   api.Config
	now int64
	all []told
}

func (p *plain) isLive(a told) bool {
	return !a.revoked && (a.Till == 0 || a.Till > p.now)
}

// own are a user's live assertions, and what they cost.
func (p *plain) own(user int) (l []api.Said, units, bytes float64) {
	for _, a := range p.all {
		if a.User == user && p.isLive(a) {
			l, units, bytes = append(l, a.Said), units+real(a.cost), bytes+imag(a.cost)
		}
	}
	return l, units, bytes
}

// highest is by label the labels at or above it, as setup has them.
var highest = [][]int{{low, mid, side, high}, {mid, high}, {side, high}, {high}}

func (p *plain) may(user, label int, life int64, cl api.Clause, cost complex128) api.Errno {
	if user < 0 || user > eve || label < 0 || label > high || life < 0 || p.now+life > api.MaxTick || real(cost) < 0 || imag(cost) < 0 {
		return api.ErrArg
	}
	if errno := sound.Check(p.c, user, cl); errno != api.OK {
		return errno
	}
	if !slices.Contains(highest[p.c.Users[user].Label], label) {
		return api.ErrLabel
	}
	l, units, bytes := p.own(user)
	if len(l) == api.MaxOwn {
		return api.ErrFull
	}
	if units+real(cost) > real(p.c.Purse) || bytes+imag(cost) > imag(p.c.Purse) {
		return api.ErrPurse
	}
	return api.OK
}

func (p *plain) assert(user, label int, life int64, cl api.Clause, cost complex128) (int, api.Errno) {
	if errno := p.may(user, label, life, cl, cost); errno != api.OK {
		return 0, errno
	}
	no := 1
	for _, a := range p.all {
		if a.User == user {
			no++
		}
	}
	till := int64(0)
	if life > 0 {
		till = p.now + life
	}
	rule, _ := lower.Rule(p.c, user, cl)
	p.all = append(p.all, told{Said: api.Said{User: user, No: no, Label: label, Till: till, Rule: rule}, cost: cost})
	return no, api.OK
}

func (p *plain) revoke(user, no int) api.Errno {
	for i, a := range p.all {
		if a.User == user && a.No == no && p.isLive(a) {
			p.all[i].revoked = true
			return api.OK
		}
	}
	return api.ErrId
}

func (p *plain) tick() api.Errno {
	if p.now == api.MaxTick {
		return api.ErrFull
	}
	p.now++
	return api.OK
}

// hold asks the set all that can be asked.
func (p *plain) hold(t *testing.T, s *Set) {
	t.Helper()
	var all []api.Said
	for user := -1; user <= eve+1; user++ {
		l, units, bytes := p.own(user)
		if used := s.Used(user); used != complex(units, bytes) {
			t.Fatalf("Used(%d): %v, not %v and %v", user, used, units, bytes)
		}
		all = append(all, l...)
		for no := -1; no < 12; no++ {
			has := slices.ContainsFunc(l, func(a api.Said) bool { return a.No == no })
			if s.Has(user, no) != has {
				t.Fatalf("Has(%d, %d): %v", user, no, !has)
			}
		}
	}
	if got := s.All(); !reflect.DeepEqual(got, all) || !lower.Live(p.c, got) {
		t.Fatalf("All: %v, not %v", got, all)
	}
	if s.Now() != p.now {
		t.Fatalf("Now: %d, not %d", s.Now(), p.now)
	}
}

var texts = []string{"p(a).", "p(7).", "z.", "ok(X) :- p(X), not bob says p(X).", "ok(X) :- X says p(X), z, X < 3.", "ok(X) :- bob says p(X), X != ann.", "p(X).", "q.", "p(X) :- ok(X).", "z :- dan says z.", "z(a)."}

// act does one drawn thing to both.
func act(t *testing.T, r *rand.Rand, p *plain, s *Set, clauses []api.Clause) {
	t.Helper()
	user, label, no := r.Intn(5)-1, r.Intn(6)-1, r.Intn(12)
	if r.Intn(4) > 0 {
		user, label = r.Intn(3), high
	}
	life, cl := int64(r.Intn(5)), clauses[r.Intn(len(clauses))]
	cost := complex(float64(r.Intn(3)), float64(r.Intn(50)))
	if r.Intn(20) == 0 {
		life, cost = []int64{-1, api.MaxTick - p.now, api.MaxTick - p.now + 1}[r.Intn(3)], []complex128{cost, -1, -1i}[r.Intn(3)]
	}
	switch r.Intn(8) {
	case 0:
		if got, want := s.Tick(), p.tick(); got != want {
			t.Fatalf("Tick: %d, not %d", got, want)
		}
	case 1, 2:
		if got, want := s.Revoke(user, no), p.revoke(user, no); got != want {
			t.Fatalf("Revoke(%d, %d): %d, not %d", user, no, got, want)
		}
	case 3:
		if got, want := s.May(user, label, life, cl, cost), p.may(user, label, life, cl, cost); got != want {
			t.Fatalf("May(%d, %d, %d, %v, %v): %d, not %d", user, label, life, cl, cost, got, want)
		}
	default:
		got, errno := s.Assert(user, label, life, cl, cost)
		want, wanted := p.assert(user, label, life, cl, cost)
		if got != want || errno != wanted {
			t.Fatalf("Assert(%d, %d, %d, %v, %v): %d, %d, not %d, %d", user, label, life, cl, cost, got, errno, want, wanted)
		}
	}
}

// P21.1, P21.2, P21.3: drawn acts, each held against the chapter's words; sometimes the last tick is near.
func TestDrawnActs(t *testing.T) {
	r := rand.New(rand.NewSource(21))
	var clauses []api.Clause
	for _, text := range texts {
		clauses = append(clauses, parsed(t, text))
	}
	clauses = append(clauses, api.Clause{})
	for round := range 200 {
		s, p := begun(t, setup), &plain{c: made(t, setup)}
		if round%4 == 0 {
			s.now = api.MaxTick - 9
			p.now = s.now
		}
		for range 60 {
			act(t, r, p, s, clauses)
			p.hold(t, s)
		}
	}
}

// P21.2, P21.3: as many as may be live at all, and what is over of them at one tick.
func TestAsManyAsMayBe(t *testing.T) {
	c := made(t, "label low\nlabel high\nabove high low\npred p 1 0\nbound 1\npurse 32 0")
	for i := range api.MaxUsers {
		c.Users = append(c.Users, api.User{Name: "u" + string(rune('a'+i))})
	}
	s, errno := New(c)
	if errno != api.OK {
		t.Fatalf("New: %d", errno)
	}
	cl := parsed(t, "p(a).")
	for i := range api.MaxOwn {
		for user := api.MaxUsers - 1; user >= 0; user-- {
			if no, errno := s.Assert(user, 1, int64(i%3), cl, 1); no != i+1 || errno != api.OK {
				t.Fatalf("Assert of %d: %d, %d", user, no, errno)
			}
		}
	}
	if all := s.All(); len(all) != api.MaxLive || !lower.Live(c, all) {
		t.Fatalf("All: %d", len(all))
	}
	for _, want := range []int{api.MaxLive - 11*api.MaxUsers, api.MaxLive - 21*api.MaxUsers, api.MaxLive - 21*api.MaxUsers} {
		s.Tick()
		if all := s.All(); len(all) != want || !lower.Live(c, all) || s.Used(3) != complex(float64(want/api.MaxUsers), 0) {
			t.Errorf("at %d: %d are live, not %d", s.Now(), len(all), want)
		}
	}
}
