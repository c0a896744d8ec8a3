package service

import (
	"bytes"
	"crypto/sha256"
	"encoding/binary"
	"fmt"
	"math/rand"
	"reflect"
	"slices"
	"strings"
	"testing"

	"mandate/api"
	"mandate/check"
	"mandate/config"
	"mandate/disk"
	"mandate/lower"
	"mandate/naive"
	"mandate/prove"
	"mandate/request"
	"mandate/sound"
)

// spec is a service as the document's words have it: it keeps what there ever was, and finds anew at each request what holds at one label.
type spec struct {
	c       api.Config
	now     int64
	said    []assertion
	entries [][]api.Entry
}

type assertion struct {
	api.Said
	bytes   int
	revoked bool
}

func specOf(t testing.TB, text string) *spec {
	t.Helper()
	c, line, errno := config.Parse(text)
	if errno != api.OK {
		t.Fatalf("the configuration: %d at %d", errno, line)
	}
	return &spec{c: c, entries: make([][]api.Entry, len(c.Labels))}
}

// twin is the same, and goes on by itself.
func (p *spec) twin() *spec {
	other := *p
	other.said = slices.Clone(p.said)
	other.entries = nil
	for _, l := range p.entries {
		other.entries = append(other.entries, slices.Clone(l))
	}
	return &other
}

func (p *spec) live() []api.Said {
	var l []api.Said
	for _, a := range p.said {
		if !a.revoked && (a.Till == 0 || a.Till > p.now) {
			l = append(l, a.Said)
		}
	}
	slices.SortStableFunc(l, func(a, b api.Said) int { return a.User - b.User })
	return l
}

func (p *spec) find(user, no int) *assertion {
	for i, a := range p.said {
		if a.User == user && a.No == no && !a.revoked && (a.Till == 0 || a.Till > p.now) {
			return &p.said[i]
		}
	}
	return nil
}

// above: is the label b at or above a?
func (p *spec) above(a, b int) bool {
	return p.c.Up[a]>>b&1 == 1
}

// against tells what is against a request that was read.
func (p *spec) against(user int, text string, q api.Request) api.Errno {
	switch q.Kind {
	case api.QAssert:
		return p.againstAssert(user, text, q)
	case api.QRevoke:
		if p.find(user, q.No) == nil {
			return api.ErrId
		}
	case api.QQuery, api.QProve:
		f, errno := lower.Pattern(p.c, user, q.Lit)
		if errno != api.OK {
			return errno
		}
		if q.Kind == api.QProve && slices.ContainsFunc(f.Args, func(x api.Term) bool { return x.Var != "" }) {
			return api.ErrRange
		}
	}
	return api.OK
}

func (p *spec) againstAssert(user int, text string, q api.Request) api.Errno {
	label := slices.Index(p.c.Labels, q.Label)
	if label < 0 {
		return api.ErrLabel
	}
	if q.Life > api.MaxTick-p.now {
		return api.ErrArg
	}
	if errno := sound.Check(p.c, user, q.Clause); errno != api.OK {
		return errno
	}
	if !p.above(p.c.Users[user].Label, label) {
		return api.ErrLabel
	}
	count, bytes := 0, len(text)
	for _, a := range p.said {
		if p.find(a.User, a.No) != nil && a.User == user {
			count, bytes = count+1, bytes+a.bytes
		}
	}
	if count == api.MaxOwn {
		return api.ErrFull
	}
	if float64(count+1) > real(p.c.Purse) || float64(bytes) > imag(p.c.Purse) {
		return api.ErrPurse
	}
	return api.OK
}

func (p *spec) ask(name, text string, fail bool) string {
	user := slices.IndexFunc(p.c.Users, func(u api.User) bool { return u.Name == name })
	if user < 0 {
		return "error 18"
	}
	q, at, errno := request.Parse(text)
	if errno != api.OK {
		return fmt.Sprintf("error %d at %d", errno, at)
	}
	if errno := p.against(user, text, q); errno != api.OK {
		return fmt.Sprintf("error %d", errno)
	}
	if fail {
		return "error 19"
	}
	answer, label := p.answer(user, text, q), p.c.Users[user].Label
	p.entries[label] = append(p.entries[label], api.Entry{User: name, Tick: p.now, Text: text, Digest: sha256.Sum256([]byte(answer))})
	return answer
}

// answer is that of a request that is accepted.
func (p *spec) answer(user int, text string, q api.Request) string {
	switch q.Kind {
	case api.QAssert:
		no := 1
		for _, a := range p.said {
			if a.User == user {
				no++
			}
		}
		r, _ := lower.Rule(p.c, user, q.Clause)
		a := api.Said{User: user, No: no, Label: slices.Index(p.c.Labels, q.Label), Rule: r}
		if q.Life > 0 {
			a.Till = p.now + q.Life
		}
		p.said = append(p.said, assertion{Said: a, bytes: len(text)})
		return fmt.Sprintf("id %d", no)
	case api.QRevoke:
		p.find(user, q.No).revoked = true
		return "ok"
	case api.QAudit:
		return p.audit(p.c.Users[user].Label)
	}
	model, over, _ := naive.Model(p.c, p.live(), p.c.Users[user].Label)
	f, _ := lower.Pattern(p.c, user, q.Lit)
	if over {
		return "overlimit"
	}
	if q.Kind == api.QProve {
		return p.proof(p.c.Users[user].Label, f)
	}
	var lines []string
	for _, a := range model {
		if suits(f, a.Tuple) {
			lines = append(lines, "\n"+spelt(a.Tuple))
		}
	}
	return fmt.Sprintf("atoms %d%s", len(lines), strings.Join(lines, ""))
}

// suits: is an atom one of a pattern's?
func suits(f api.Flat, t api.Tuple) bool {
	values := map[string]api.Value{}
	for i, x := range f.Args {
		v, known := values[x.Var]
		switch {
		case x.Var == "":
			v = x.Val
		case !known:
			v = t.Args[i]
			values[x.Var] = v
		}
		if f.Pred != t.Pred || v != t.Args[i] {
			return false
		}
	}
	return f.Pred == t.Pred
}

// spelt is an atom's text.
func spelt(t api.Tuple) string {
	var args []string
	for _, v := range t.Args[1:] {
		args = append(args, map[bool]string{true: fmt.Sprint(v.Num), false: v.Sym}[v.Sym == ""])
	}
	text := t.Args[0].Sym + " says " + t.Pred
	if len(args) > 0 {
		text += "(" + strings.Join(args, ", ") + ")"
	}
	return text
}

func (p *spec) proof(label int, f api.Flat) string {
	t := api.Tuple{Pred: f.Pred}
	for _, x := range f.Args {
		t.Args = append(t.Args, x.Val)
	}
	nodes, errno := prove.Prove(p.c, p.live(), label, t)
	if errno == api.ErrNone {
		return "deny"
	}
	answer := "grant"
	for _, n := range nodes {
		kids := strings.Trim(strings.ReplaceAll(fmt.Sprint(n.Kids), " ", ","), "[]")
		if kids == "" {
			kids = "-"
		}
		answer += fmt.Sprintf("\n%d %d %s %s", n.User, n.No, kids, spelt(n.Tuple))
		for _, not := range n.Nots {
			answer += " not " + spelt(not)
		}
	}
	return answer
}

func (p *spec) audit(label int) string {
	lines, many := "", 0
	for below, l := range p.entries {
		for i, e := range l {
			if p.above(below, label) {
				lines += fmt.Sprintf("\n%s %d %s %d %x %s", p.c.Labels[below], i+1, e.User, e.Tick, e.Digest, e.Text)
				many++
			}
		}
	}
	return fmt.Sprintf("audit %d%s", many, lines)
}

func (p *spec) tick() string {
	p.now++
	return fmt.Sprintf("tick %d", p.now)
}

// head is that of entries, in the words of chapter 18.
func head(l []api.Entry) []byte {
	h := make([]byte, 32)
	for i, e := range l {
		b := binary.BigEndian.AppendUint64(h, uint64(i))
		b = append(append(b, byte(len(e.User))), e.User...)
		b = binary.BigEndian.AppendUint64(b, uint64(e.Tick))
		b = append(binary.BigEndian.AppendUint32(b, uint32(len(e.Text))), e.Text...)
		sum := sha256.Sum256(append(b, e.Digest[:]...))
		h = sum[:]
	}
	return h
}

// same tells where a service is not as the document's words have it; nothing, if it is.
func (p *spec) same(s *Service) string {
	if s.Now() != p.now {
		return fmt.Sprintf("Now: %d, not %d", s.Now(), p.now)
	}
	if got, want := s.Live(), p.live(); !reflect.DeepEqual(got, want) {
		return fmt.Sprintf("Live: %v, not %v", got, want)
	}
	for label, want := range p.entries {
		if got := s.Entries(label); !slices.Equal(got, want) {
			return fmt.Sprintf("Entries(%d): %v, not %v", label, got, want)
		}
		if got, errno := s.Head(label); !bytes.Equal(got, head(want)) || errno != api.OK {
			return fmt.Sprintf("Head(%d): %x", label, got)
		}
	}
	return ""
}

func (p *spec) hold(t *testing.T, s *Service) {
	t.Helper()
	if wrong := p.same(s); wrong != "" {
		t.Fatal(wrong)
	}
}

func one(r *rand.Rand, words ...string) string {
	return words[r.Intn(len(words))]
}

// filled puts drawn words in the places of a pattern.
func filled(r *rand.Rand, pattern string) string {
	for strings.Contains(pattern, "#") {
		pattern = strings.Replace(pattern, "#", one(r, "a", "b", "1", "-2"), 1)
	}
	for strings.Contains(pattern, "@") {
		pattern = strings.Replace(pattern, "@", one(r, "ann", "bob", "cat", "dan", "eva", "X"), 1)
	}
	return pattern
}

// where is at which label a user asserts: mostly one at or above their own.
func where(r *rand.Rand, user string) string {
	own := map[string][]string{"bob": {"left", "top"}, "cat": {"right", "top"}, "dan": {"top"}}[user]
	if own == nil || r.Intn(20) == 0 {
		own = []string{"low", "low", "left", "right", "top"}
	}
	return one(r, own...)
}

// drawn is what a user asks.
func drawn(r *rand.Rand) (user, text string) {
	user = one(r, "ann", "ann", "ann", "bob", "cat", "dan", "eva")
	switch r.Intn(16) {
	case 0, 1, 2, 3:
		return user, "assert " + where(r, user) + one(r, " ", " ", " ", " for 9 ") + filled(r, one(r, facts...)) + "."
	case 4, 5:
		return user, "assert " + where(r, user) + one(r, " ", " ", " for 3 ") + filled(r, one(r, rules...)) + "."
	case 6:
		return user, "revoke " + fmt.Sprint(1+r.Intn(40))
	case 7, 8, 9:
		return user, "query " + filled(r, one(r, "p(X)", "X says p(Y)", "Y says p(#)", "@ says q(X, Y)", "@ says q(X, X)", "@ says ok(X)", "@ says bad(X)", "@ says none", "X says four(X, Y, Y, Z)"))
	case 10, 11, 12:
		return user, "prove " + strings.ReplaceAll(filled(r, one(r, "p(#)", "@ says p(#)", "ann says ok(#)", "@ says ok(#)", "ann says q(#, #)", "@ says q(#, #)", "@ says bad(#)", "@ says none")), "X", "ann")
	case 13:
		return user, "audit"
	case 14:
		return one(r, "ann", "fay", "", "low"), one(r, "audit", "", "audit.", "query", "query p(X", "assert low p(X).", "assert none p(a).", "query p", "prove p(X)", "revoke 0", "assert for for 7 p(a).", "query fay says p(a)", "assert low p(a, b, c, d, e).", "audit\n")
	}
	return user, one(r, "assert top ok(X) :- not p(X).", "assert top p(X) :- not bad(X).", "assert top for 1099511627776 p(b).", "prove X says ok(a)", "query  Y  says\tok( X ) ")
}

var facts = []string{"p(#)", "p(#)", "q(#, #)", "q(#, #)", "none", "four(#, #, #, #)", "bad(#)"}

var rules = []string{
	"p(X) :- bob says p(X)", "p(X) :- @ says q(X, Y), X != Y", "q(X, Z) :- q(X, Y), @ says q(Y, Z)", "q(X, Y) :- p(X), p(Y)", "p(X) :- X says none",
	"bad(X) :- Y says p(X), not none", "bad(X) :- q(X, X), @ says p(X)", "ok(X) :- p(X), not bad(X)", "ok(X) :- Y says p(X), not bob says bad(X), X < b", "ok(X) :- cat says p(X), ann says q(X, Y), not dan says bad(Y)",
}

// acted does one drawn thing to both, and tells the service that goes on, and the specification. It counts what was answered, by the first word and, of an error, the number.
func acted(t *testing.T, r *rand.Rand, text string, d *disk.Disk, s *Service, p *spec, times map[string]int) (*Service, *spec) {
	t.Helper()
	before, do := p.twin(), func() string { return s.Checkpoint() }
	want, bytes := "ok", 18
	switch r.Intn(40) {
	case 0, 1:
		do, want = s.Tick, p.tick()
	case 2, 3:
	case 4:
		d.Crash(r.Intn(9))
		return begun(t, text, d), p
	default:
		user, what := drawn(r)
		fail := r.Intn(20) == 0
		do, want, bytes = func() string { return s.Ask(user, what, fail) }, p.ask(user, what, fail), 19+len(what)
	}
	if r.Intn(9) == 0 {
		// With just as many units as its record has bytes, it is all there, but not sure.
		d.Fuse([]int{r.Intn(70), bytes}[r.Intn(2)])
	}
	got := do()
	if d.On() {
		d.Fuse(-1)
		if got != want {
			t.Fatalf("%q, not %q", got, want)
		}
		times[kind(got)]++
		return s, p
	}
	if got != "error 20" {
		t.Fatalf("%q as the power failed", got)
	}
	before.hold(t, s)
	d.Crash(r.Intn(90))
	d.Fuse(r.Intn(4))
	if again, _, errno := Open(text, d); errno != api.OK {
		if again != nil || errno != api.ErrDown {
			t.Fatalf("Open as the power failed: %v, %d", again, errno)
		}
		d.Crash(r.Intn(9))
	}
	d.Fuse(-1)
	s = begun(t, text, d)
	if p.same(s) != "" {
		times["not done"]++
		return s, before
	}
	if before.same(s) != "" {
		times["done"]++
	}
	return s, p
}

// kind tells an answer's first word, and of an error its number.
func kind(answer string) string {
	word, rest, _ := strings.Cut(strings.SplitN(answer, "\n", 2)[0], " ")
	if word == "error" {
		number, _, _ := strings.Cut(rest, " ")
		return word + " " + number
	}
	return word
}

func TestDrawnScripts(t *testing.T) { // P1, P3, P6, P7, P23.2 to P23.4
	r, times := rand.New(rand.NewSource(23)), map[string]int{}
	for round := range 40 {
		text := with(t, wide, "bound 200", fmt.Sprintf("bound %d", []int{4, 12, 200}[round%3]))
		text = with(t, text, "purse 40 9000", fmt.Sprintf("purse %d %d", []int{40, 12}[round%2], []int{9000, 700, 400}[r.Intn(3)]))
		d := disk.New()
		s, p := begun(t, text, d), specOf(t, text)
		for range 250 {
			s, p = acted(t, r, text, d, s, p, times)
			p.hold(t, s)
		}
	}
	for _, word := range []string{"id", "ok", "atoms", "grant", "deny", "overlimit", "audit", "tick", "error 1", "error 13", "error 14", "error 15", "error 16", "error 17", "error 18", "error 19", "not done", "done"} {
		if times[word] < 20 {
			t.Errorf("too plain: %s %d times", word, times[word])
		}
	}
}

// granted looks at a grant that a user is answered: it proves, cites what is heard alone, and each node is said by whom it is asserted.
func granted(t *testing.T, s *Service, label int, asked, answer string) {
	t.Helper()
	proof, ok := strings.CutPrefix(answer, "grant\n")
	goal, known := lower.Read(asked)
	nodes, _, errno := check.Read(proof + "\n")
	if !ok || !known || errno != api.OK || check.AcceptText(s.config, s.Live(), label, goal, proof+"\n") != api.OK {
		t.Fatalf("%s: no proof: %s", asked, answer)
	}
	model, _, _ := naive.Model(s.config, s.Live(), label)
	for _, n := range nodes {
		heard := slices.ContainsFunc(s.Live(), func(a api.Said) bool {
			return a.User == n.User && a.No == n.No && s.config.Up[a.Label]>>label&1 == 1
		})
		if !heard || s.config.Users[n.User].Name != n.Tuple.Args[0].Sym {
			t.Fatalf("%s: %v", asked, n)
		}
		for _, not := range n.Nots {
			if _, is := naive.Find(model, not); is {
				t.Fatalf("%s: %s is so", asked, spelt(not))
			}
		}
	}
}

func TestWhyAndWho(t *testing.T) { // P4, P5: each atom that is told is granted, and each other one denied
	r := rand.New(rand.NewSource(45))
	grants, denies := 0, 0
	for range 80 {
		s := begun(t, wide, disk.New())
		for range 60 {
			if user, text := drawn(r); strings.HasPrefix(text, "assert") {
				s.Ask(user, text, false)
			}
		}
		for label, user := range []string{"dan", "bob", "eva", "cat"} {
			for _, pattern := range []string{"X says p(Y)", "X says q(Y, Z)", "X says ok(Y)", "X says bad(Y)", "X says none"} {
				for _, atom := range strings.Split(s.Ask(user, "query "+pattern, false), "\n")[1:] {
					granted(t, s, label, atom, s.Ask(user, "prove "+atom, false))
					grants++
				}
			}
			for range 10 {
				atom := strings.ReplaceAll(filled(r, "@ says ok(#)"), "X", "ann")
				told := s.Ask(user, "query "+atom, false)
				if answer := s.Ask(user, "prove "+atom, false); (answer == "deny") != (told == "atoms 0") {
					t.Fatalf("%s: %s, but %s", atom, answer, told)
				} else if answer == "deny" {
					denies++
				}
			}
		}
	}
	if grants < 1000 || denies < 200 {
		t.Errorf("too plain: %d grants, %d denials", grants, denies)
	}
}
