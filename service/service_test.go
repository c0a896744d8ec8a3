package service

import (
	"bytes"
	"crypto/sha256"
	"encoding/hex"
	"math"
	"slices"
	"strconv"
	"strings"
	"testing"

	"mandate/api"
	"mandate/chain"
	"mandate/check"
	"mandate/disk"
	"mandate/lower"
	"mandate/prove"
)

// small is the configuration of the document's ten examples.
const small = `label low
label high
above high low
user ann low
user bob high
pred p 1 0
pred ok 1 1
bound 20
purse 9 900
`

// wide has labels of which left and right are not one above the other, and that do not stand in the order of their numbers.
const wide = `label top
label left
label low
label right
above left low
above right low
above top left
above top right
user ann low
user bob left
user cat right
user dan top
user eva low
pred p 1 0
pred q 2 0
pred none 0 0
pred four 4 1
pred bad 1 1
pred ok 1 2
bound 200
purse 40 9000
`

func begun(t testing.TB, text string, d *disk.Disk) *Service {
	t.Helper()
	s, line, errno := Open(text, d)
	if errno != api.OK || s == nil || line != 0 {
		t.Fatalf("Open: %v, %d, %d", s, line, errno)
	}
	return s
}

// with is a text with something else in place of a part of it.
func with(t testing.TB, text, part, other string) string {
	t.Helper()
	if !strings.Contains(text, part) {
		t.Fatalf("no %q in %q", part, text)
	}
	return strings.Replace(text, part, other, 1)
}

// asked asks for what is told ahead of the answers: of each line a user, a colon, a text. The word tick stands for a tick.
func asked(t testing.TB, s *Service, linesAndAnswers ...string) {
	t.Helper()
	for i := 0; i < len(linesAndAnswers); i += 2 {
		line, want := linesAndAnswers[i], linesAndAnswers[i+1]
		if got := told(s, line); got != want {
			t.Errorf("%s: %q, not %q", line, got, want)
		}
	}
}

// told tells the answer of a line.
func told(s *Service, line string) string {
	if line == "tick" {
		return s.Tick()
	}
	user, text, _ := strings.Cut(line, ": ")
	return s.Ask(user, text, false)
}

// number is an error's answer.
func number(errno api.Errno) string {
	return "error " + strconv.Itoa(int(errno))
}

// digest is how an audit tells an answer.
func digest(answer string) string {
	d := sha256.Sum256([]byte(answer))
	return hex.EncodeToString(d[:])
}

func TestTheChaptersExample(t *testing.T) { // P23.1, P23.2
	s := begun(t, small, disk.New())
	asked(t, s,
		"ann: assert low p(a).", "id 1",
		"ann: query p(X)", "atoms 1\nann says p(a)",
		"dan: audit", "error 18",
		"ann: query p(X", "error 6 at 9",
		"tick", "tick 1",
	)
}

func TestTheTenExamples(t *testing.T) { // P1 to P7: as the document tells them
	d := disk.New()
	s := begun(t, small, d)
	const proof = "grant\n0 1 - ann says p(a)\n0 2 0 ann says ok(a) not bob says p(a)"
	asked(t, s,
		"ann: assert low p(a).", "id 1",
		"ann: query p(X)", "atoms 1\nann says p(a)",
		"bob: query ann says p(X)", "atoms 1\nann says p(a)",
		"ann: query bob says p(X)", "atoms 0",
		"bob: assert low p(b).", "error 15",
		"ann: assert low ok(X) :- p(X), not bob says p(X).", "id 2",
		"ann: prove ok(a)", proof,
		"bob: assert high p(a).", "id 1",
		"bob: prove ann says ok(a)", "deny",
		"ann: prove ok(a)", proof,
		"ann: query bob says p(X)", "atoms 0",
		"ann: assert low p(X).", "error 14",
		"ann: assert low p(X) :- not p(X).", "error 13",
		"ann: assert low for 2 p(c).", "id 3",
		"tick", "tick 1",
		"ann: query p(c)", "atoms 1\nann says p(c)",
		"tick", "tick 2",
		"ann: query p(c)", "atoms 0",
		"ann: revoke 3", "error 17",
	)
	if ann, bob := s.Ask("ann", "audit", false), s.Ask("bob", "audit", false); strings.Contains(ann, "bob 0") || !strings.HasPrefix(ann, "audit 10\nlow 1 ann 0 ") ||
		!strings.HasPrefix(bob, "audit 14\nlow 1 ann 0 ") || strings.Count(bob, "\nhigh ") != 3 {
		t.Errorf("audits: %s, %s", ann, bob)
	}
	d.Fuse(2)
	asked(t, s, "ann: query p(X)", "error 20")
	d.Crash(0)
	s = begun(t, small, d)
	if got := s.Ask("ann", "audit", false); !strings.HasPrefix(got, "audit 11\n") {
		t.Errorf("behind the failure: %s", got)
	}
	over := begun(t, with(t, small, "bound 20", "bound 1"), disk.New())
	asked(t, over,
		"ann: assert low p(a).", "id 1",
		"ann: query p(X)", "atoms 1\nann says p(a)",
		"ann: assert low p(b).", "id 2",
		"ann: query p(X)", "overlimit",
	)
}

func TestErrorsOfRequests(t *testing.T) { // P23.2, P7: 1 and 2 of what a request comes to
	s := begun(t, small, disk.New())
	asked(t, s, "ann: assert high p(a).", "id 1", "tick", "tick 1")
	before := state(t, s)
	long := strings.Repeat(" ", api.MaxText)
	asked(t, s,
		"dan: audit", "error 18",
		"low: audit", "error 18",
		"ANN: audit", "error 18",
		": audit", "error 18",
		"dan: audit!", "error 18",
		"dan: assert none p(a).", "error 18",
		"ann: ", "error 6 at 0",
		"ann: ask", "error 6 at 0",
		"ann: audit!", "error 5 at 5",
		"ann: audit\n", "error 5 at 5",
		"ann: audit\r", "error 5 at 5",
		"ann: audit now", "error 6 at 6",
		"ann: revoke 0", "error 6 at 7",
		"ann: revoke 1099511627777", "error 6 at 7",
		"ann: query not p(X)", "error 6 at 6",
		"ann: query p(X", "error 6 at 9",
		"ann: query p(1, 2, 3, 4, 5)", "error 2 at 18",
		"ann: assert none p(a)", "error 6 at 16",
		"ann: audit"+long, "error 2 at 0",
		"ann: assert none p(a).", "error 15",
		"ann: assert ann p(a).", "error 15",
		"ann: assert none q(a).", "error 15",
		"ann: assert high for 1099511627776 p(a).", "error 1",
		"ann: assert high for 1099511627776 q(a).", "error 1",
		"bob: assert low q(a).", "error 10",
		"bob: assert low p(a, b).", "error 11",
		"bob: assert low ok(X) :- dan says p(X).", "error 12",
		"bob: assert low ok(X) :- not ok(X).", "error 13",
		"bob: assert low ok(X) :- not p(X).", "error 14",
		"bob: assert low p(a).", "error 15",
		"ann: revoke 2", "error 17",
		"bob: revoke 1", "error 17",
		"ann: revoke 1099511627776", "error 17",
		"ann: query q(X)", "error 10",
		"ann: query p", "error 11",
		"ann: query p(X, Y)", "error 11",
		"ann: query dan says p(X)", "error 12",
		"ann: query high says p(X)", "error 12",
		"ann: prove q(a)", "error 10",
		"ann: prove p(X, X)", "error 11",
		"ann: prove dan says p(X)", "error 12",
		"ann: prove p(X)", "error 14",
		"ann: prove X says p(a)", "error 14",
	)
	if after := state(t, s); after != before {
		t.Errorf("refused requests have changed %s to %s", before, after)
	}
}

// state is all that a service tells of itself, and what its users are answered; the requests for that are known by the number of entries alone.
func state(t testing.TB, s *Service) string {
	t.Helper()
	var l []string
	for label := -1; label <= len(s.config.Labels); label++ {
		head, errno := s.Head(label)
		l = append(l, hex.EncodeToString(head), number(errno))
		for _, e := range s.Entries(label) {
			l = append(l, e.User, strconv.FormatInt(e.Tick, 10), e.Text, hex.EncodeToString(e.Digest[:]))
		}
	}
	for _, said := range s.Live() {
		l = append(l, strconv.Itoa(said.User), strconv.Itoa(said.No), strconv.Itoa(said.Label), strconv.FormatInt(said.Till, 10))
		cl, ok := lower.Raise(s.config, said.User, said.Rule)
		if !ok {
			t.Fatalf("no rule of a user's: %v", said)
		}
		l = append(l, cl.Head.Pred, strconv.Itoa(len(cl.Body)))
	}
	return strings.Join(append(l, strconv.FormatInt(s.Now(), 10), strconv.Itoa(s.log.Len())), "|")
}

func TestLivesNearTheLastTick(t *testing.T) { // P23.2
	s := begun(t, small, disk.New())
	asked(t, s,
		"ann: assert low for 1099511627776 p(a).", "id 1",
		"tick", "tick 1",
		"ann: assert low for 1099511627776 p(b).", "error 1",
		"ann: assert low for 1099511627775 p(b).", "id 2",
	)
	if l := s.Live(); len(l) != 2 || l[0].Till != api.MaxTick || l[1].Till != api.MaxTick {
		t.Errorf("Live: %v", l)
	}
}

func TestPurses(t *testing.T) { // P23.2, P7: a text costs one, and its bytes
	const text = "ann: assert low p(a)."
	bytes := len("assert low p(a).")
	for purse, times := range map[string]int{
		"0 900":                             0,
		"2 900":                             2,
		"9 0":                               0,
		"9 " + strconv.Itoa(bytes-1):        0,
		"9 " + strconv.Itoa(bytes):          1,
		"9 " + strconv.Itoa(3*bytes-1):      2,
		"9 " + strconv.Itoa(3*bytes):        3,
		"1099511627776 1099511627776":       api.MaxOwn,
		"33 " + strconv.Itoa(40*bytes):      api.MaxOwn,
		"32 " + strconv.Itoa(32*bytes-1):    31,
		"1000 " + strconv.Itoa(31*bytes+20): 32,
	} {
		s := begun(t, with(t, strings.ReplaceAll(small, "high", "top"), "purse 9 900", "purse "+purse), disk.New())
		for i := range times {
			asked(t, s, text, "id "+strconv.Itoa(i+1))
		}
		want, others := number(api.ErrPurse), "id 1"
		switch times {
		case 0:
			others = want
		case api.MaxOwn:
			want = number(api.ErrFull)
		}
		asked(t, s, text, want, "bob: assert top p(a).", others)
		if times > 0 {
			asked(t, s, "ann: revoke 1", "ok", text, "id "+strconv.Itoa(times+1), text, want)
		}
	}
	// The cost is that of the text as it was asked, not as it would be printed.
	s := begun(t, with(t, small, "purse 9 900", "purse 9 20"), disk.New())
	asked(t, s, "ann:      assert low  p(a)  .", number(api.ErrPurse), "ann: assert low p( a )  .", "id 1", "ann: revoke 1", "ok", "ann:  assert\tlow p(a).", "id 2")
}

func TestWhatCannotBeWritten(t *testing.T) { // P23.2, P23.4: 3 of what a request comes to
	d := disk.New()
	s := begun(t, small, d)
	asked(t, s, "ann: assert low p(a).", "id 1")
	before := state(t, s)
	for text, want := range map[string]string{
		"assert low p(b).":  "error 19",
		"revoke 1":          "error 19",
		"query p(X)":        "error 19",
		"prove p(a)":        "error 19",
		"audit":             "error 19",
		"assert none p(b).": "error 15",
		"revoke 2":          "error 17",
		"prove p(X)":        "error 14",
		"audit now":         "error 6 at 6",
	} {
		if got := s.Ask("ann", text, true); got != want {
			t.Errorf("%s: %q, not %q", text, got, want)
		}
	}
	if got := s.Ask("dan", "audit", true); got != "error 18" {
		t.Errorf("of nobody: %q", got)
	}
	if after := state(t, s); after != before {
		t.Errorf("what was not written has changed %s to %s", before, after)
	}
	asked(t, s, "ann: assert low p(c).", "id 2")
	d.Fuse(0)
	asked(t, s, "ann: audit", "error 20")
	if got := s.Ask("ann", "audit", true); got != "error 19" {
		t.Errorf("without power: %q", got)
	}
}

func TestAtoms(t *testing.T) { // P23.2, P1: QQuery
	s := begun(t, wide, disk.New())
	asked(t, s,
		"ann: query p(X)", "atoms 0",
		"ann: assert low p(b).", "id 1",
		"ann: assert low p(a).", "id 2",
		"ann: assert low p(7).", "id 3",
		"ann: assert low p(-7).", "id 4",
		"ann: assert low p(10).", "id 5",
		"ann: assert low none.", "id 6",
		"ann: assert low four(1, b, -2, a).", "id 7",
		"ann: assert left p(c).", "id 8",
		"bob: assert left p(a).", "id 1",
		"cat: assert right p(d).", "id 1",
		"dan: assert top q(a, b).", "id 1",
		"eva: assert low p(a).", "id 1",
		"ann: query p(X)", "atoms 5\nann says p(-7)\nann says p(7)\nann says p(10)\nann says p(a)\nann says p(b)",
		"ann: query p(a)", "atoms 1\nann says p(a)",
		"ann: query p(c)", "atoms 0",
		"ann: query X says p(a)", "atoms 2\nann says p(a)\neva says p(a)",
		"eva: query p(X)", "atoms 1\neva says p(a)",
		"eva: query ann says p(7)", "atoms 1\nann says p(7)",
		"bob: query X says p(a)", "atoms 3\nann says p(a)\nbob says p(a)\neva says p(a)",
		"bob: query ann says p(c)", "atoms 1\nann says p(c)",
		"cat: query ann says p(c)", "atoms 0",
		"cat: query X says p(d)", "atoms 1\ncat says p(d)",
		"bob: query X says p(d)", "atoms 0",
		"dan: query X says p(Y)", "atoms 9\nann says p(-7)\nann says p(7)\nann says p(10)\nann says p(a)\nann says p(b)\nann says p(c)\nbob says p(a)\ncat says p(d)\neva says p(a)",
		"dan: query X says q(Y, Y)", "atoms 0",
		"dan: query q(X, Y)", "atoms 1\ndan says q(a, b)",
		"ann: query none", "atoms 1\nann says none",
		"dan: query none", "atoms 0",
		"dan: query ann says four(1, X, Y, Z)", "atoms 1\nann says four(1, b, -2, a)",
	)
}

func TestProofs(t *testing.T) { // P23.2, P1, P4: QProve
	s := begun(t, wide, disk.New())
	asked(t, s,
		"ann: prove p(a)", "deny",
		"ann: assert low p(a).", "id 1",
		"ann: assert low p(a).", "id 2",
		"ann: assert low q(X, Y) :- p(X), p(Y).", "id 3",
		"ann: assert low ok(X) :- q(X, Y), not bad(X), not bob says bad(Y), X != b, 3 < X.", "id 4",
		"ann: assert low none.", "id 5",
		"ann: prove p(a)", "grant\n0 1 - ann says p(a)",
		"ann: prove none", "grant\n0 5 - ann says none",
		"ann: prove p(b)", "deny",
		"bob: prove p(a)", "deny",
		"bob: prove ann says p(a)", "grant\n0 1 - ann says p(a)",
		"dan: prove ann says ok(a)", "grant\n0 1 - ann says p(a)\n0 3 0,0 ann says q(a, a)\n0 4 1 ann says ok(a) not ann says bad(a) not bob says bad(a)",
		"bob: assert left bad(a).", "id 1",
		"bob: prove ann says ok(a)", "deny",
		"dan: prove ann says ok(a)", "deny",
		"cat: prove ann says ok(a)", "grant\n0 1 - ann says p(a)\n0 3 0,0 ann says q(a, a)\n0 4 1 ann says ok(a) not ann says bad(a) not bob says bad(a)",
		"ann: revoke 1", "ok",
		"ann: prove q(a, a)", "grant\n0 2 - ann says p(a)\n0 3 0,0 ann says q(a, a)",
		"bob: revoke 1", "ok",
		"dan: prove ann says ok(a)", "grant\n0 2 - ann says p(a)\n0 3 0,0 ann says q(a, a)\n0 4 1 ann says ok(a) not ann says bad(a) not bob says bad(a)",
	)
}

func TestProofsThatNameNumbers(t *testing.T) { // P23.2: by a number's word nothing is so, and it has no text (9)
	s := begun(t, wide, disk.New())
	asked(t, s,
		"ann: assert low p(7).", "id 1",
		"ann: assert low ok(X) :- p(X), not X says p(X), not bad(X).", "id 2",
		"ann: prove ok(7)", "grant\n0 1 - ann says p(7)\n0 2 0 ann says ok(7) not  not ann says bad(7)",
	)
}

// digit is a symbol of as many bytes as a name may have.
func digit(n int) string {
	return strings.Repeat("d", 15) + strconv.Itoa(n)
}

// wordy are clauses of which an atom follows that leans on some 2300 others of long texts: 36 counters, each of two places of 8 digits.
func wordy(p, n string) []string {
	var clauses []string
	for i := range 7 {
		clauses = append(clauses, "f("+digit(i)+", "+digit(i+1)+").")
	}
	nots := ""
	for _, args := range []string{"A, B, X, Y", "B, A, X, Y", "X, Y, A, B", "Y, A, X, B"} {
		nots += ", not " + n + "(" + args + ")"
	}
	zeros := strings.NewReplacer("X", digit(0), "Y", digit(0))
	clauses = append(clauses,
		zeros.Replace(p+"(A, B, X, Y) :- g(A), g(B)"+nots+"."),
		p+"(A, B, Z, Y) :- "+p+"(A, B, X, Y), f(X, Z)"+nots+".",
		p+"(A, B, "+digit(0)+", Z) :- "+p+"(A, B, "+digit(7)+", Y), f(Y, Z)"+strings.ReplaceAll(nots, "X", digit(7))+".",
	)
	var row, all []string
	for i := range 6 {
		clauses = append(clauses, "g("+digit(i)+").")
		row = append(row, p+"(A, "+digit(i)+", "+digit(7)+", "+digit(7)+")")
		all = append(all, "row("+digit(i)+")")
	}
	return append(clauses, "row(A) :- "+strings.Join(row, ", ")+".", "all :- "+strings.Join(all, ", ")+".")
}

func TestAProofOfALongText(t *testing.T) { // P23.2, P4: an answer may have more bytes than a text that is read as a proof
	user, p, n := strings.Repeat("u", 16), strings.Repeat("p", 16), strings.Repeat("n", 16)
	s := begun(t, "label low\nuser "+user+" low\npred f 2 0\npred g 1 0\npred row 1 1\npred all 0 1\npred "+p+" 4 1\npred "+n+" 4 0\nbound 4096\npurse 99 99999\n", disk.New())
	for i, cl := range wordy(p, n) {
		asked(t, s, user+": assert low "+cl, "id "+strconv.Itoa(i+1))
	}
	answer := s.Ask(user, "prove all", false)
	lines := strings.Split(answer, "\n")
	if lines[0] != "grant" || len(answer) < api.MaxProof+10000 {
		t.Fatalf("%s, %d bytes", lines[0], len(answer))
	}
	all := api.Tuple{Pred: "all", Args: []api.Value{{Sym: user}}}
	nodes, _ := prove.Prove(s.config, s.Live(), 0, all)
	if len(nodes) != 36*64+13+6+1 || len(lines) != len(nodes)+1 || check.Accept(s.config, s.Live(), 0, all, nodes) != api.OK {
		t.Fatalf("%d nodes, %d lines", len(nodes), len(lines))
	}
	for i, node := range nodes {
		if text, errno := check.Print([]api.Node{node}); text != lines[i+1]+"\n" || errno != api.OK {
			t.Fatalf("the line %d is %q, not %q", i+1, lines[i+1], text)
		}
	}
}

func TestOverlimit(t *testing.T) { // P23.2, P1: at some labels, not at others
	s := begun(t, with(t, wide, "bound 200", "bound 2"), disk.New())
	asked(t, s,
		"ann: assert low p(a).", "id 1",
		"ann: assert left p(b).", "id 2",
		"dan: query ann says p(X)", "atoms 2\nann says p(a)\nann says p(b)",
		"ann: assert left p(c).", "id 3",
		"ann: query p(X)", "atoms 1\nann says p(a)",
		"ann: prove p(a)", "grant\n0 1 - ann says p(a)",
		"cat: prove ann says p(a)", "grant\n0 1 - ann says p(a)",
		"bob: query ann says p(X)", "overlimit",
		"bob: prove ann says p(a)", "overlimit",
		"bob: prove ann says p(d)", "overlimit",
		"bob: query q(a, b)", "overlimit",
		"dan: query q(a, b)", "overlimit",
		"bob: prove ann says p(X)", "error 14",
		"bob: query p", "error 11",
		"ann: revoke 2", "ok",
		"bob: query ann says p(X)", "atoms 2\nann says p(a)\nann says p(c)",
		"ann: assert top for 1 none.", "id 4",
		"dan: prove ann says p(a)", "overlimit",
		"bob: prove ann says p(a)", "grant\n0 1 - ann says p(a)",
		"tick", "tick 1",
		"dan: prove ann says p(a)", "grant\n0 1 - ann says p(a)",
	)
}

func TestAudit(t *testing.T) { // P23.2, P6: QAudit, and the entries
	s := begun(t, wide, disk.New())
	line := func(words ...string) string {
		l := append([]string{}, words[:4]...)
		return "\n" + strings.Join(append(l, digest(words[5]), words[4]), " ")
	}
	asked(t, s,
		"ann: audit", "audit 0",
		"ann: assert  top\tp(a).", "id 1",
		"dan: query bob says p(X)", "atoms 0",
		"dan: query p", "error 11",
		"tick", "tick 1",
		"bob:  revoke 1", "error 17",
		"cat: prove p(a)", "deny",
		"bob: query ann says p(X)", "atoms 0",
		"ann: revoke 1 ", "ok",
	)
	low := line("low", "1", "ann", "0", "audit", "audit 0") + line("low", "2", "ann", "0", "assert  top\tp(a).", "id 1") + line("low", "3", "ann", "1", "revoke 1 ", "ok")
	left := line("left", "1", "bob", "1", "query ann says p(X)", "atoms 0")
	right := line("right", "1", "cat", "1", "prove p(a)", "deny")
	top := line("top", "1", "dan", "0", "query bob says p(X)", "atoms 0")
	asked(t, s, "ann: audit", "audit 3"+low)
	low += line("low", "4", "ann", "1", "audit", "audit 3"+low)
	asked(t, s, "bob: audit", "audit 5"+left+low)
	left += line("left", "2", "bob", "1", "audit", "audit 5"+left+low)
	asked(t, s, "cat: audit", "audit 5"+low+right)
	right += line("right", "2", "cat", "1", "audit", "audit 5"+low+right)
	asked(t, s, "dan: audit", "audit 9"+top+left+low+right)
	top += line("top", "2", "dan", "1", "audit", "audit 9"+top+left+low+right)
	asked(t, s, "eva: audit", "audit 4"+low, "dan: audit", "audit 11"+top+left+low+line("low", "5", "eva", "1", "audit", "audit 4"+low)+right)
}

func TestEntries(t *testing.T) { // P23.3, P6
	s := begun(t, wide, disk.New())
	asked(t, s, "ann: assert low p(a).", "id 1", "eva: audit", "audit 1\nlow 1 ann 0 "+digest("id 1")+" assert low p(a).", "tick", "tick 1", "dan: query p(X)", "atoms 0")
	entry := func(user string, tick int64, text, answer string) api.Entry {
		return api.Entry{User: user, Tick: tick, Text: text, Digest: sha256.Sum256([]byte(answer))}
	}
	wants := [][]api.Entry{
		{entry("dan", 1, "query p(X)", "atoms 0")},
		nil,
		{entry("ann", 0, "assert low p(a).", "id 1"), entry("eva", 0, "audit", "audit 1\nlow 1 ann 0 "+digest("id 1")+" assert low p(a).")},
		nil,
	}
	for label, want := range wants {
		if got := s.Entries(label); !slices.Equal(got, want) {
			t.Errorf("Entries(%d): %v, not %v", label, got, want)
		}
		want, _ := chain.Head(32, want)
		if got, errno := s.Head(label); !bytes.Equal(got, want) || errno != api.OK || len(got) != 32 {
			t.Errorf("Head(%d): %x, %d, not %x", label, got, errno, want)
		}
	}
	for _, label := range []int{-1, 4, 63, 64, 65, math.MinInt, math.MaxInt} {
		if got := s.Entries(label); len(got) != 0 {
			t.Errorf("Entries(%d): %v", label, got)
		}
		if got, errno := s.Head(label); len(got) != 0 || errno != api.ErrArg {
			t.Errorf("Head(%d): %x, %d", label, got, errno)
		}
	}
}

func TestAHeadTellsPasts(t *testing.T) { // P6: another past has another head
	s := begun(t, small, disk.New())
	asked(t, s, "ann: assert low p(a).", "id 1", "tick", "tick 1", "ann: query p(X)", "atoms 1\nann says p(a)", "ann: revoke 1", "ok")
	head, _ := s.Head(0)
	past := s.Entries(0)
	if chain.Verify(32, past, head) != api.OK {
		t.Fatal("it is not the head of the entries")
	}
	for i := range past {
		for _, change := range []func(*api.Entry){
			func(e *api.Entry) { e.User = "bob" },
			func(e *api.Entry) { e.Tick++ },
			func(e *api.Entry) { e.Text += " " },
			func(e *api.Entry) { e.Digest[31] ^= 1 },
		} {
			other := slices.Clone(past)
			change(&other[i])
			if chain.Verify(32, other, head) != api.ErrChain {
				t.Errorf("the head of a past that is another one at %d", i)
			}
		}
		if chain.Verify(32, slices.Delete(slices.Clone(past), i, i+1), head) != api.ErrChain {
			t.Errorf("the head of a past without %d", i)
		}
	}
}

func TestLive(t *testing.T) { // P23.3, P5, P7
	s := begun(t, small, disk.New())
	if len(s.Live()) != 0 || s.Now() != 0 {
		t.Error("a service begins with something")
	}
	asked(t, s, "bob: assert high for 2 ok(X) :- ann says p(X).", "id 1", "ann: assert high p(a).", "id 1", "tick", "tick 1", "ann: assert low for 1 p(7).", "id 2")
	var got []string
	for _, said := range s.Live() {
		cl, _ := lower.Raise(s.config, said.User, said.Rule)
		got = append(got, strings.Join([]string{strconv.Itoa(said.User), strconv.Itoa(said.No), strconv.Itoa(said.Label), strconv.FormatInt(said.Till, 10), cl.Head.Pred, strconv.Itoa(len(cl.Body))}, " "))
	}
	if want := []string{"0 1 1 0 p 0", "0 2 0 2 p 0", "1 1 1 2 ok 1"}; !slices.Equal(got, want) || s.Now() != 1 {
		t.Errorf("Live: %q at %d", got, s.Now())
	}
	asked(t, s, "tick", "tick 2", "ann: revoke 2", "error 17", "bob: revoke 1", "error 17", "ann: revoke 1", "ok", "ann: revoke 1", "error 17", "ann: assert low p(b).", "id 3")
	if l := s.Live(); len(l) != 1 || l[0].No != 3 {
		t.Errorf("Live: %v", l)
	}
}

func TestNilService(t *testing.T) { // P23.3, R1
	var s *Service
	head, errno := s.Head(0)
	if s.Ask("ann", "audit", false) != "error 1" || s.Ask("", "", true) != "error 1" || s.Tick() != "error 1" || s.Checkpoint() != "error 1" ||
		s.Now() != 0 || len(s.Live()) != 0 || len(head) != 0 || errno != api.ErrArg || len(s.Entries(0)) != 0 {
		t.Error("a service that is not there")
	}
}

func TestSharesNothing(t *testing.T) { // R4
	s := begun(t, small, disk.New())
	asked(t, s, "ann: assert low ok(X) :- p(X).", "id 1", "ann: assert low p(a).", "id 2", "ann: query ok(X)", "atoms 1\nann says ok(a)")
	before := state(t, s)
	l, head, entries := s.Live(), []byte(nil), s.Entries(0)
	head, _ = s.Head(0)
	l[0].Rule.Head.Args[1], l[0].Rule.Body[0].Args[0], l[0].Rule.Body[0].Pred, l[1].No = api.Term{}, api.Term{}, "", 9
	head[0]++
	entries[0] = api.Entry{}
	if after := state(t, s); after != before {
		t.Errorf("%s is %s", before, after)
	}
	asked(t, s, "ann: assert low p(b).", "id 3", "ann: query ok(X)", "atoms 2\nann says ok(a)\nann says ok(b)")
}
