package purge

import (
	"crypto/sha256"
	"encoding/hex"
	"math"
	"reflect"
	"slices"
	"strconv"
	"strings"
	"testing"

	"mandate/api"
	"mandate/config"
)

const small = `label low
label high
above high low
user ann low
user bob high
pred p 1 0
pred ok 1 1
bound 20
purse 9 900
`

// wide has labels of which left and right are not one above the other.
const wide = `label top
label left
label low
label right
above left low
above right low
above top left
above top right
user ann low
user bob left
user cat right
user dan top
pred p 1 0
bound 20
purse 9 900
`

const (
	top = iota
	left
	low
	right
)

func configured(t testing.TB, text string) api.Config {
	t.Helper()
	c, line, errno := config.Parse(text)
	if errno != api.OK {
		t.Fatalf("the configuration: %d at %d", errno, line)
	}
	return c
}

func ask(user, text string) api.Step {
	return api.Step{Kind: api.SAsk, User: user, Text: text}
}

// powered is a step with units, and what a failure keeps.
func powered(s api.Step, units, keep int) api.Step {
	s.Units, s.Keep = units, keep
	return s
}

var (
	tick       = api.Step{Kind: api.STick}
	checkpoint = api.Step{Kind: api.SCheck}
	crash      = api.Step{Kind: api.SCrash}
)

// plays looks whether a script's answers are those.
func plays(t *testing.T, l []api.Step, want ...string) {
	t.Helper()
	got, line, errno := Play(small, l)
	if !slices.Equal(got, want) || line != 0 || errno != api.OK {
		t.Errorf("Play of %v: %q, %d, %d, not %q", l, got, line, errno, want)
	}
}

func TestPlay(t *testing.T) { // P24.1
	plays(t, nil)
	plays(t, []api.Step{}, []string{}...)
	plays(t, []api.Step{
		ask("ann", "assert low for 2 p(a)."), tick, ask("ann", "query p(X)"), checkpoint, ask("bob", "query ann says p(X)"),
		{Kind: api.SAsk, User: "ann", Text: "revoke 1", Fail: true}, crash, ask("ann", "query p(X)"), tick, ask("ann", "query p(X)"),
		ask("dan", "audit"), ask("ann", "audit!"), ask("", ""),
	},
		"id 1", "tick 1", "atoms 1\nann says p(a)", "ok", "atoms 1\nann says p(a)",
		"error 19", "", "atoms 1\nann says p(a)", "tick 2", "atoms 0",
		"error 18", "error 5 at 5", "error 18",
	)
}

func TestPlayOfWrongTexts(t *testing.T) { // P24.1
	for text, want := range map[string]struct {
		line  int
		errno api.Errno
	}{
		"":                     {0, api.ErrLine},
		"label low\nlabel low": {2, api.ErrName},
		small + "x":            {strings.Count(small, "\n") + 1, api.ErrLine},
		small + strings.Repeat("\n", api.MaxConfig): {0, api.ErrLong},
	} {
		for _, l := range [][]api.Step{nil, {tick}} {
			if got, line, errno := Play(text, l); len(got) != 0 || line != want.line || errno != want.errno {
				t.Errorf("Play: %q, %d, %d, not %v", got, line, errno, want)
			}
		}
	}
}

func TestPlayOfOtherKinds(t *testing.T) { // P24.1: nothing is done
	other := func(kind uint8, units int) api.Step {
		return api.Step{Kind: kind, User: "ann", Text: "assert low p(a).", Units: units, Keep: 100}
	}
	plays(t, []api.Step{other(0, 0), other(5, 1), other(255, 7), ask("ann", "query p(X)"), ask("ann", "audit")},
		"", "", "", "atoms 0", "audit 1\nlow 1 ann 0 "+digest("atoms 0")+" query p(X)")
	// Fields that a kind has not are not looked at.
	plays(t, []api.Step{{Kind: api.STick, User: "ann", Text: "audit", Fail: true}, {Kind: api.SCheck, User: "ann", Text: "audit", Fail: true}, {Kind: api.SCrash, User: "ann", Text: "audit", Fail: true}},
		"tick 1", "ok", "")
}

// digest is how an audit tells an answer.
func digest(answer string) string {
	d := sha256.Sum256([]byte(answer))
	return hex.EncodeToString(d[:])
}

// audits is that an audit tells so many entries.
func audits(t *testing.T, answer string, many int) {
	t.Helper()
	if !strings.HasPrefix(answer, "audit "+strconv.Itoa(many)) || strings.Count(answer, "\n") != many {
		t.Errorf("not %d entries: %s", many, answer)
	}
}

func TestPlayWithPower(t *testing.T) { // P24.1, P3: a step has one unit less than its Units; it needs one for each byte of its record, and one to be sure
	const text = "query p(X)"
	record := 4 + 8 + 2 + len(text) + 4 + 1
	for units := -3; units < record+5; units++ {
		for _, keep := range []int{math.MinInt, -1, 0, 1, record - 1, record, record + 1, math.MaxInt} {
			got, _, _ := Play(small, []api.Step{powered(ask("ann", text), units, keep), ask("ann", "audit"), tick})
			if len(got) != 3 {
				t.Fatalf("%d answers", len(got))
			}
			switch {
			case units <= 0 || units >= record+2:
				if got[0] != "atoms 0" {
					t.Errorf("%d units: %q", units, got[0])
				}
				audits(t, got[1], 1)
			case units == record+1 && keep >= record:
				if got[0] != "lost" {
					t.Errorf("%d units, %d kept: %q", units, keep, got[0])
				}
				audits(t, got[1], 1)
			default:
				if got[0] != "lost" {
					t.Errorf("%d units, %d kept: %q", units, keep, got[0])
				}
				audits(t, got[1], 0)
			}
			if got[2] != "tick 1" {
				t.Errorf("behind it: %q", got[2])
			}
		}
	}
}

func TestPlayWithPowerThatIsNotNeeded(t *testing.T) { // P24.1: what writes nothing needs none, and what is left is left
	refused := powered(ask("ann", "query p"), 1, 0)
	failing := powered(ask("ann", "audit"), 1, 0)
	failing.Fail = true
	plays(t, []api.Step{refused, failing, powered(ask("dan", "audit"), 1, 9), tick, powered(api.Step{Kind: 9}, 1, 1), tick}, "error 11", "error 19", "error 18", "tick 1", "", "tick 2")
	plays(t, []api.Step{powered(tick, 1, 0), powered(tick, 19, 17), powered(tick, 19, 18), powered(tick, 20, 0), tick}, "lost", "lost", "lost", "tick 2", "tick 3")
	plays(t, []api.Step{powered(tick, 1<<40, 0), powered(tick, math.MaxInt, 0), powered(tick, math.MinInt, 0), powered(tick, -1, 0)}, "tick 1", "tick 2", "tick 3", "tick 4")
	// A checkpoint of two ticks: 36 bytes, and a unit each to make them sure, to rename them, and to cut the log.
	for units := 1; units < 45; units++ {
		want := "lost"
		if units >= 36+3+1 {
			want = "ok"
		}
		for _, keep := range []int{0, 20, 40} {
			plays(t, []api.Step{tick, tick, powered(checkpoint, units, keep), tick, crash, tick}, "tick 1", "tick 2", want, "tick 3", "", "tick 4")
		}
	}
}

func TestPlayOfCrashes(t *testing.T) { // P24.1: a crash's answer is the empty text, and nothing that was answered is gone
	for _, units := range []int{math.MinInt, 0, 1, 2, 100, math.MaxInt} {
		for _, keep := range []int{math.MinInt, 0, 5, math.MaxInt} {
			plays(t, []api.Step{powered(crash, units, keep), ask("ann", "assert low p(a)."), powered(crash, units, keep), ask("ann", "query p(X)"), crash, crash, ask("ann", "revoke 1")},
				"", "id 1", "", "atoms 1\nann says p(a)", "", "", "ok")
		}
	}
}

func TestPlayKeepsNothing(t *testing.T) { // R4, R5
	l := []api.Step{ask("ann", "assert low p(a)."), tick, ask("ann", "audit")}
	before := slices.Clone(l)
	first, _, _ := Play(small, l)
	second, _, _ := Play(small, l)
	if !slices.Equal(l, before) || !slices.Equal(first, second) {
		t.Errorf("%v; %q, %q", l, first, second)
	}
	first[0] = ""
	if second[0] != "id 1" {
		t.Error("two answers share a list")
	}
}

func TestKept(t *testing.T) { // P24.2
	c := configured(t, wide)
	kept := map[string][]int{"ann": {top, left, low, right}, "bob": {top, left}, "cat": {top, right}, "dan": {top}, "eva": nil, "": nil, "low": nil}
	for label := range c.Labels {
		for user, labels := range kept {
			for _, s := range []api.Step{ask(user, "audit"), {Kind: api.SAsk, User: user}, {Kind: api.SAsk, User: user, Text: "query p(", Fail: true, Units: 3, Keep: 2}} {
				if got := Kept(c, label, s); got != slices.Contains(labels, label) {
					t.Errorf("Kept(%d) of %s's: %v", label, user, got)
				}
			}
		}
		for kind := range 256 {
			s := api.Step{Kind: uint8(kind), User: "dan", Units: 7, Keep: 1}
			want := kind == int(api.STick) || kind == int(api.SCheck) || kind == int(api.SCrash) || kind == int(api.SAsk) && label == top
			if Kept(c, label, s) != want {
				t.Errorf("Kept(%d) of the kind %d: %v", label, kind, !want)
			}
		}
	}
}

func TestWhatMayNotBe(t *testing.T) { // P24.2, R1
	c := configured(t, wide)
	l, answers := []api.Step{tick, ask("ann", "audit"), crash}, []string{"tick 1", "audit 0", ""}
	for _, label := range []int{-1, 4, 5, 63, 64, math.MinInt, math.MaxInt} {
		if Kept(c, label, tick) || Kept(c, label, l[1]) || len(At(c, label, l)) != 0 || len(Answers(c, label, l, answers)) != 0 {
			t.Errorf("of the label %d", label)
		}
	}
	bad := func(change func(*api.Config)) api.Config {
		c := configured(t, wide)
		change(&c)
		return c
	}
	for i, c := range []api.Config{
		{},
		bad(func(c *api.Config) { c.Bound = 0 }),
		bad(func(c *api.Config) { c.Users[0].Label = 4 }),
		bad(func(c *api.Config) { c.Users[0].Label = -1 }),
		bad(func(c *api.Config) { c.Users[1].Name = "ann" }),
		bad(func(c *api.Config) { c.Up[low] = 0 }),
		bad(func(c *api.Config) { c.Up = c.Up[:3] }),
		bad(func(c *api.Config) { c.Labels = c.Labels[:3] }),
		bad(func(c *api.Config) { c.Preds[0].Arity = 5 }),
		bad(func(c *api.Config) { c.Purse = -1 }),
	} {
		for label := range 4 {
			if Kept(c, label, tick) || Kept(c, label, l[1]) || len(At(c, label, l)) != 0 || len(Answers(c, label, l, answers)) != 0 {
				t.Errorf("of the bad configuration %d", i)
			}
		}
	}
}

func TestAtAndAnswers(t *testing.T) { // P24.2
	c := configured(t, wide)
	l := []api.Step{ask("ann", "1"), tick, ask("bob", "2"), ask("eva", "3"), checkpoint, {Kind: 7, User: "ann"}, ask("cat", "4"), powered(crash, 0, 3), ask("ann", "5"), ask("dan", "6")}
	answers := []string{"a", "b", "c", "d", "e", "f", "g", "h", "i", "j"}
	for label, want := range map[int]string{top: "acgij", left: "aci", low: "ai", right: "agi"} {
		var steps []api.Step
		for i, s := range l {
			if strings.Contains(want+"beh", answers[i]) {
				steps = append(steps, s)
			}
		}
		if got := At(c, label, l); !slices.Equal(got, steps) {
			t.Errorf("At(%d): %v, not %v", label, got, steps)
		}
		for n := range 12 {
			// Some have none, or there are more than steps.
			given := append(slices.Clone(answers), "k")[:n]
			wanted := strings.Join(given, "")
			if got := strings.Join(Answers(c, label, l, given), ""); got != among(wanted, want) {
				t.Errorf("Answers(%d) of %q: %q", label, given, got)
			}
			if got := strings.Join(Answers(c, label, l[:min(n, len(l))], answers), ""); got != among(wanted, want) {
				t.Errorf("Answers(%d) of %d steps: %q", label, n, got)
			}
		}
	}
	if len(At(c, low, nil)) != 0 || len(Answers(c, low, nil, answers)) != 0 || len(Answers(c, low, l, nil)) != 0 {
		t.Error("of nothing")
	}
	mine := At(c, low, l)
	mine[0] = api.Step{}
	if !reflect.DeepEqual(l[0], ask("ann", "1")) {
		t.Error("the purge shares the script's list")
	}
}

// among is the letters of a text that another one has.
func among(text, letters string) string {
	return strings.Map(func(c rune) rune {
		if strings.ContainsRune(letters, c) {
			return c
		}
		return -1
	}, text)
}
