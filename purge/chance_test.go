package purge

import (
	"math/rand"
	"slices"
	"strconv"
	"strings"
	"testing"

	"mandate/api"
)

// one is one of some words.
func one(r *rand.Rand, words ...string) string {
	return words[r.Intn(len(words))]
}

// setup is a drawn configuration: up to five labels in a drawn order, six users.
func setup(r *rand.Rand) string {
	var lines []string
	labels := 1 + r.Intn(5)
	for a := range labels {
		lines = append(lines, "label l"+strconv.Itoa(a))
	}
	for a := range labels {
		for b := range a {
			if r.Intn(2) == 0 {
				lines = append(lines, "above l"+strconv.Itoa(a)+" l"+strconv.Itoa(b))
			}
		}
	}
	for u := range 6 {
		lines = append(lines, "user u"+strconv.Itoa(u)+" l"+strconv.Itoa(r.Intn(labels)))
	}
	lines = append(lines, "pred p 1 0", "pred q 2 0", "pred bad 1 1", "pred ok 1 2", "bound "+one(r, "3", "9", "60"), "purse "+one(r, "4 150", "9 900", "30 9000"))
	return strings.Join(lines, "\n")
}

// filled puts drawn words in the places of a pattern: a # is a value, an @ a user, a % a label.
func filled(r *rand.Rand, pattern string) string {
	for strings.Contains(pattern, "#") {
		pattern = strings.Replace(pattern, "#", one(r, "a", "a", "b", "7"), 1)
	}
	for strings.Contains(pattern, "@") {
		pattern = strings.Replace(pattern, "@", one(r, "X", "u0", "u1", "u2", "u3", "u4", "u5"), 1)
	}
	for strings.Contains(pattern, "%") {
		pattern = strings.Replace(pattern, "%", "l"+strconv.Itoa(r.Intn(5)), 1)
	}
	return pattern
}

var patterns = []string{
	"assert % p(#).", "assert % p(#).", "assert % p(a).", "assert % p(a).", "assert % for 2 p(#).", "assert % q(#, #).", "assert % bad(#).", "assert % ok(Y) :- @ says p(Y), not @ says bad(Y).", "assert % p(Y) :- @ says q(Y, Z).",
	"assert % bad(Y) :- @ says q(Y, Y), not @ says p(Y).", "assert % ok(Y) :- X says p(Y), Z says bad(Y).", "assert % q(Y, Z) :- X says p(Y), X says p(Z).", "assert % ok(Y) :- not p(Y).",
	"revoke 1", "revoke 2", "revoke 3", "query @ says p(Y)", "query @ says ok(Y)", "query X says p(Y)", "query @ says bad(Y)", "query @ says q(Y, Z)", "query p", "query p(",
	"prove @ says ok(#)", "prove p(#)", "prove p(#)", "prove p(#)", "prove ok(a)", "prove u0 says p(a)", "prove @ says p(#)", "prove @ says bad(#)", "audit", "audit", "audit now",
}

func drawnStep(r *rand.Rand) api.Step {
	s := api.Step{Kind: api.SAsk, User: "u" + strconv.Itoa(r.Intn(7)), Text: filled(r, one(r, patterns...)), Fail: r.Intn(15) == 0}
	switch r.Intn(14) {
	case 0:
		s = tick
	case 1:
		s = checkpoint
	case 2:
		s = crash
	case 3:
		s.Kind = uint8(r.Intn(7))
	}
	if r.Intn(5) == 0 {
		s.Units, s.Keep = r.Intn(90), r.Intn(90)
	}
	if s.Kind == api.SAsk && r.Intn(12) == 0 {
		// With just as many units as its record has bytes, it is all there, but not sure.
		s.Units, s.Keep = 1+19+len(s.Text), 90*r.Intn(2)
	}
	return s
}

// P24.3, P2: at each label, the answers to those who may be heard there are those of the script without all others.
func TestNobodyLearnsOfWhatIsAbove(t *testing.T) {
	r := rand.New(rand.NewSource(24))
	held, times := 0, map[string]int{}
	for range 250 {
		text := setup(r)
		c := configured(t, text)
		var l []api.Step
		for range 120 {
			l = append(l, drawnStep(r))
		}
		all, _, errno := Play(text, l)
		if errno != api.OK || len(all) != len(l) {
			t.Fatalf("Play: %d answers, %d", len(all), errno)
		}
		for label := range c.Labels {
			less := At(c, label, l)
			answers, _, _ := Play(text, less)
			got, want := Answers(c, label, less, answers), Answers(c, label, l, all)
			if !slices.Equal(got, want) {
				t.Fatalf("at %d of\n%s\nof %v:\n%q\nnot\n%q", label, text, l, got, want)
			}
			if len(less) < len(l) && len(got) > 3 {
				held++
			}
			for _, answer := range got {
				word, _, _ := strings.Cut(strings.SplitN(answer, "\n", 2)[0], " ")
				times[word]++
			}
		}
	}
	for _, word := range []string{"id", "ok", "atoms", "grant", "deny", "overlimit", "audit", "error", "lost"} {
		if times[word] < 100 {
			t.Errorf("too plain: %s %d times", word, times[word])
		}
	}
	if held < 300 {
		t.Errorf("too plain: %d purges", held)
	}
}

// P24.3, P2: whatever bob, who is above ann, does.
func TestAnnIsAnsweredTheSame(t *testing.T) {
	asks := []api.Step{
		ask("ann", "assert low p(a)."), ask("ann", "query X says p(Y)"), ask("ann", "assert low ok(X) :- p(X), not bob says p(X)."), ask("ann", "prove ok(a)"), ask("ann", "audit"), ask("ann", "query X says ok(Y)"),
	}
	want, _, _ := Play(small, asks)
	bobs := []api.Step{ask("bob", "assert high p(a)."), ask("bob", "query X says p(Y)"), ask("bob", "audit"), ask("bob", "revoke 1"), powered(ask("bob", "assert high p(b)."), 9, 3), {Kind: api.SAsk, User: "bob", Text: "audit", Fail: true}}
	c := configured(t, small)
	for i, bob := range bobs {
		var l []api.Step
		for _, s := range asks {
			l = append(l, bob, s, bob)
		}
		answers, _, _ := Play(small, l)
		if got := Answers(c, 0, l, answers); !slices.Equal(got, want) || !slices.Equal(At(c, 0, l), asks) {
			t.Errorf("with bob's %d: %q, not %q", i, got, want)
		}
		if got := Answers(c, 1, l, answers); len(got) != len(l) {
			t.Errorf("at high: %q", got)
		}
	}
}
