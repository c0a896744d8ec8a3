package console

import (
	"math"
	"math/rand"
	"regexp"
	"slices"
	"strconv"
	"strings"
	"testing"

	"mandate/api"
	"mandate/purge"
)

const small = `label low
label high
above high low
user ann low
user bob high
pred p 1 0
pred ok 1 1
bound 20
purse 9 900
`

const (
	name16 = "abcdefghijklmno_"
	most   = 1 << 40
)

// written are steps, and the lines that they are written as.
func written() map[string]api.Step {
	return map[string]api.Step{
		"ann: audit":                  {Kind: api.SAsk, User: "ann", Text: "audit"},
		"ann! audit":                  {Kind: api.SAsk, User: "ann", Text: "audit", Fail: true},
		"ann: ":                       {Kind: api.SAsk, User: "ann"},
		"ann! ":                       {Kind: api.SAsk, User: "ann", Fail: true},
		"ann:  ":                      {Kind: api.SAsk, User: "ann", Text: " "},
		"ann:  audit ":                {Kind: api.SAsk, User: "ann", Text: " audit "},
		"ann: : !":                    {Kind: api.SAsk, User: "ann", Text: ": !"},
		"ann! : !":                    {Kind: api.SAsk, User: "ann", Text: ": !", Fail: true},
		"ann: \xff\x00\r\t#":          {Kind: api.SAsk, User: "ann", Text: "\xff\x00\r\t#"},
		"ann: tick":                   {Kind: api.SAsk, User: "ann", Text: "tick"},
		name16 + ": assert low p(a).": {Kind: api.SAsk, User: name16, Text: "assert low p(a)."},
		"tick: tick":                  {Kind: api.SAsk, User: "tick", Text: "tick"},
		"tick! tick":                  {Kind: api.SAsk, User: "tick", Text: "tick", Fail: true},
		"checkpoint: checkpoint":      {Kind: api.SAsk, User: "checkpoint", Text: "checkpoint"},
		"crash: 5":                    {Kind: api.SAsk, User: "crash", Text: "5"},
		"crash! 5":                    {Kind: api.SAsk, User: "crash", Text: "5", Fail: true},
		"power: 3 0 tick":             {Kind: api.SAsk, User: "power", Text: "3 0 tick"},
		"power 3 0 power! 3 0 tick":   {Kind: api.SAsk, User: "power", Text: "3 0 tick", Fail: true, Units: 3},
		"power 3 0 ann: audit":        {Kind: api.SAsk, User: "ann", Text: "audit", Units: 3},
		"power 1 7 ann: ":             {Kind: api.SAsk, User: "ann", Units: 1, Keep: 7},
		"power 1099511627776 1099511627776 ann! audit": {Kind: api.SAsk, User: "ann", Text: "audit", Fail: true, Units: most, Keep: most},
		"tick":                             {Kind: api.STick},
		"power 1 0 tick":                   {Kind: api.STick, Units: 1},
		"power 20 5 tick":                  {Kind: api.STick, Units: 20, Keep: 5},
		"checkpoint":                       {Kind: api.SCheck},
		"power 9 9 checkpoint":             {Kind: api.SCheck, Units: 9, Keep: 9},
		"power 1 1099511627776 checkpoint": {Kind: api.SCheck, Units: 1, Keep: most},
		"crash 0":                          {Kind: api.SCrash},
		"crash 5":                          {Kind: api.SCrash, Keep: 5},
		"crash 1099511627776":              {Kind: api.SCrash, Keep: most},
	}
}

func TestLines(t *testing.T) { // P25.1, P25.2
	for line, s := range written() {
		for _, text := range []string{line, line + "\n", "\n" + line + "\n\n", "# a remark\n" + line, "#\n#" + line + "\n" + line + "\n#"} {
			if l, at, errno := Read(text); !slices.Equal(l, []api.Step{s}) || at != 0 || errno != api.OK {
				t.Errorf("Read(%q): %v, %d, %d", text, l, at, errno)
			}
		}
		if text, errno := Write([]api.Step{s}); text != line+"\n" || errno != api.OK {
			t.Errorf("Write(%v): %q, %d", s, text, errno)
		}
	}
}

func TestScripts(t *testing.T) { // P25.1, P25.2
	if l, at, errno := Read(""); len(l) != 0 || at != 0 || errno != api.OK {
		t.Errorf("Read of nothing: %v, %d, %d", l, at, errno)
	}
	if text, errno := Write(nil); text != "" || errno != api.OK {
		t.Errorf("Write of nothing: %q, %d", text, errno)
	}
	var all []api.Step
	var lines []string
	for line, s := range written() {
		all, lines = append(all, s), append(lines, line)
	}
	text := strings.Join(lines, "\n")
	if l, at, errno := Read("\n#\n" + text); !slices.Equal(l, all) || at != 0 || errno != api.OK {
		t.Errorf("Read: %v, %d, %d", l, at, errno)
	}
	if got, errno := Write(all); got != text+"\n" || errno != api.OK {
		t.Errorf("Write: %q, %d", got, errno)
	}
}

func TestReadOfLinesThatAreNone(t *testing.T) { // P25.1
	for _, line := range []string{
		" ", "\t", "\r", "x", "ann", "ann:", "ann!", "ann audit", "ann:audit", "ann!audit", "ann :audit", "ann : audit", " ann: audit", "\tann: audit", "ann:\taudit", "ann:: audit", "ann!! audit", "ann!: audit", "ann:! audit",
		": audit", "! audit", " audit", "Ann: audit", "7: audit", "_a: audit", "not: audit", "says: audit", name16 + "x: audit", "a-b: audit", "ann bob: audit", "\xff: audit", "anné: audit", " #", " # remark",
		"tick ", " tick", "tick 1", "Tick", "ticks", "tick:", "tick\r", "TICK", "checkpoint ", " checkpoint", "checkpoint 1", "check", "checkpoints",
		"crash", "crash ", "crash -1", "crash +1", "crash 01", "crash 00", "crash -0", "crash 1099511627777", "crash 9223372036854775807", "crash 18446744073709551616", "crash a", "crash 1 ", "crash  1", " crash 1", "crash 1 2", "crash 1.0", "crash 0x1",
		"power", "power ", "power 3", "power 3 0", "power 3 0 ", "power 3 0 x", "power 0 0 tick", "power 0 1 tick", "power -1 0 tick", "power 1 -1 tick", "power 01 0 tick", "power 1 00 tick", "power +1 0 tick", "power a 0 tick", "power 1 a tick", "power 1 -0 tick",
		"power 1099511627777 0 tick", "power 1 1099511627777 tick", "power 18446744073709551617 0 tick", "power 1  0 tick", "power  1 0 tick", "power 1 0  tick", " power 1 0 tick", "power 1 0 tick ", "power\t1 0 tick", "power 1 tick", "power 1 1 1 tick",
		"power 1 0 crash 0", "power 1 5 crash 5", "power 1 0 crash", "power 0 0 ann: audit", "power 0 5 ann: audit", "power 1 0 ann", "power 1 0 ann:", "power 1 0 ann:audit", "power 1 0 : audit", "power 1 0 power 1 0 tick", "power 1 0 #", "Power 1 0 tick", "powers 1 0 tick",
	} {
		for at, text := range map[int]string{1: line, 2: "\n" + line, 4: "tick\n#x\nann: audit\n" + line + "\n?\n"} {
			if l, got, errno := Read(text); len(l) != 0 || got != at || errno != api.ErrLine {
				t.Errorf("Read(%q): %v, %d, %d", text, l, got, errno)
			}
			if text, got, errno := Run(small, text); text != "" || got != at || errno != api.ErrLine {
				t.Errorf("Run(%q): %q, %d, %d", line, text, got, errno)
			}
		}
	}
}

func TestWriteOfStepsThatAreNone(t *testing.T) { // P25.2
	ask := api.Step{Kind: api.SAsk, User: "ann", Text: "audit"}
	change := func(s api.Step, changes ...func(*api.Step)) api.Step {
		for _, c := range changes {
			c(&s)
		}
		return s
	}
	units := func(n int) func(*api.Step) { return func(s *api.Step) { s.Units = n } }
	keep := func(n int) func(*api.Step) { return func(s *api.Step) { s.Keep = n } }
	user := func(name string) func(*api.Step) { return func(s *api.Step) { s.User = name } }
	text := func(words string) func(*api.Step) { return func(s *api.Step) { s.Text = words } }
	fails := func(s *api.Step) { s.Fail = true }
	tick, check, crash := api.Step{Kind: api.STick}, api.Step{Kind: api.SCheck}, api.Step{Kind: api.SCrash}
	bad := []api.Step{
		{}, {Kind: 5}, {Kind: 255}, {Kind: 5, User: "ann", Text: "audit"}, {User: "ann", Text: "audit"},
		change(ask, user("")), change(ask, user("Ann")), change(ask, user("not")), change(ask, user(name16+"x")), change(ask, user("ann:")), change(ask, user("ann\n")),
		change(ask, text("\n")), change(ask, text("audit\n")), change(ask, text("a\nb")), change(crash, units(1)), change(crash, units(1), keep(1)),
	}
	for _, s := range []api.Step{ask, tick, check} {
		bad = append(bad, change(s, keep(1)), change(s, keep(most)))
	}
	for _, s := range []api.Step{ask, tick, check, crash} {
		for _, n := range []int{-1, most + 1, math.MinInt, math.MaxInt} {
			bad = append(bad, change(s, units(n)), change(s, units(3), keep(n)), change(s, keep(n)), change(s, units(n), keep(1)))
		}
	}
	for _, s := range []api.Step{tick, check, crash} {
		bad = append(bad, change(s, user("ann")), change(s, text("audit")), change(s, fails), change(s, text(" ")))
	}
	long := api.Step{Kind: api.SAsk, User: "ann", Text: strings.Repeat("x", api.MaxScript)}
	for _, s := range bad {
		for _, l := range [][]api.Step{{s}, {ask, s}, {s, ask}, {long, s}} {
			if text, errno := Write(l); text != "" || errno != api.ErrArg {
				t.Errorf("Write(%v): %.40q, %d", s, text, errno)
			}
		}
	}
}

func TestLongScripts(t *testing.T) { // P25.1, P25.2
	const rest = "ann: \n"
	full := api.Step{Kind: api.SAsk, User: "ann", Text: strings.Repeat("x", api.MaxScript-len(rest))}
	text, errno := Write([]api.Step{full})
	if len(text) != api.MaxScript || errno != api.OK {
		t.Errorf("Write of as many bytes as may be: %d, %d", len(text), errno)
	}
	if l, at, errno := Read(text); !slices.Equal(l, []api.Step{full}) || at != 0 || errno != api.OK {
		t.Errorf("Read of as many bytes as may be: %d, %d", at, errno)
	}
	for _, long := range []string{text + "\n", "#" + text, strings.Repeat("\n", api.MaxScript+1), strings.Repeat("?", api.MaxScript+1)} {
		if l, at, errno := Read(long); len(l) != 0 || at != 0 || errno != api.ErrLong {
			t.Errorf("Read of too many bytes: %d, %d", at, errno)
		}
		if told, at, errno := Run("", long); told != "" || at != 0 || errno != api.ErrLong {
			t.Errorf("Run of too many bytes: %d, %d", at, errno)
		}
	}
	if l, at, errno := Read(strings.Repeat("\n", api.MaxScript)); len(l) != 0 || at != 0 || errno != api.OK {
		t.Errorf("Read of empty lines: %d, %d", at, errno)
	}
	if _, at, errno := Read(strings.Repeat("\n", api.MaxScript-1) + "?"); at != api.MaxScript || errno != api.ErrLine {
		t.Errorf("Read of a last line: %d, %d", at, errno)
	}
	full.Text += "x"
	short := api.Step{Kind: api.STick}
	for _, l := range [][]api.Step{{full}, {short, full}, {full, short}, slices.Repeat([]api.Step{short}, api.MaxScript/5+1)} {
		if text, errno := Write(l); text != "" || errno != api.ErrLong {
			t.Errorf("Write of too many bytes: %d, %d", len(text), errno)
		}
	}
	if text, errno := Write(slices.Repeat([]api.Step{short}, api.MaxScript/5)); len(text) != api.MaxScript/5*5 || errno != api.OK {
		t.Errorf("Write of many steps: %d, %d", len(text), errno)
	}
}

// judge tells, in other words, whether a line is a step's.
var judge = regexp.MustCompile(`^(?s:(power ([1-9][0-9]{0,12}) (0|[1-9][0-9]{0,12}) )?(tick|checkpoint|([a-z][a-z0-9_]{0,15})[:!] .*)|crash (0|[1-9][0-9]{0,12}))$`)

func judged(line string) bool {
	m := judge.FindStringSubmatch(line)
	if m == nil || m[5] == "not" || m[5] == "says" {
		return false
	}
	for _, digits := range []string{m[2], m[3], m[6]} {
		if n, _ := strconv.Atoi(digits); n > most {
			return false
		}
	}
	return true
}

func TestDrawnLines(t *testing.T) { // P25.1, P25.2
	r := rand.New(rand.NewSource(25))
	parts := []string{"power", "tick", "checkpoint", "crash", "ann", "not", "A", " ", " ", " ", " ", ":", "!", ": ", "! ", "0", "1", "7", "01", "-1", "1099511627776", "1099511627777", "#", "\t", "power 3 0 ", "ann: ", "crash ", "audit", "\xff"}
	good := 0
	for range 300000 {
		line := ""
		for range 1 + r.Intn(8) {
			line += parts[r.Intn(len(parts))]
		}
		l, at, errno := Read(line)
		switch {
		case strings.HasPrefix(line, "#"):
			if len(l) != 0 || at != 0 || errno != api.OK {
				t.Fatalf("Read of the remark %q: %v, %d, %d", line, l, at, errno)
			}
		case judged(line):
			text, wrong := Write(l)
			if len(l) != 1 || at != 0 || errno != api.OK || text != line+"\n" || wrong != api.OK {
				t.Fatalf("Read(%q): %v, %d, %d, which is written as %q, %d", line, l, at, errno, text, wrong)
			}
			good++
		case len(l) != 0 || at != 1 || errno != api.ErrLine:
			t.Fatalf("Read(%q): %v, %d, %d", line, l, at, errno)
		}
	}
	if good < 5000 {
		t.Errorf("too plain: %d lines are some", good)
	}
}

func TestDrawnSteps(t *testing.T) { // P25.2: what is written is read as the same
	r := rand.New(rand.NewSource(252))
	numbers := []int{0, 0, 0, 1, 5, most, most + 1, -1}
	words := []string{"", "", "ann", "tick", "not", "A", "a b", "\n", ": ", "power"}
	good := 0
	for range 300000 {
		s := api.Step{Kind: uint8(r.Intn(6)), User: words[r.Intn(len(words))], Text: words[r.Intn(len(words))], Fail: r.Intn(2) == 0, Units: numbers[r.Intn(len(numbers))], Keep: numbers[r.Intn(len(numbers))]}
		text, errno := Write([]api.Step{s})
		if errno == api.OK {
			if l, at, errno := Read(text); !slices.Equal(l, []api.Step{s}) || at != 0 || errno != api.OK {
				t.Fatalf("Write(%v): %q, which is read as %v, %d, %d", s, text, l, at, errno)
			}
			good++
			continue
		}
		// No line is read as it: not that either that it would be written as.
		if l, _, _ := Read(line(s)); errno != api.ErrArg || slices.Equal(l, []api.Step{s}) {
			t.Fatalf("Write(%v): %d", s, errno)
		}
	}
	if good < 5000 {
		t.Errorf("too plain: %d steps may be written", good)
	}
}

func TestRun(t *testing.T) { // P25.3
	script := "# what is said\nann: assert low p(a).\n\ntick\nbob: query ann says p(X)\nann! revoke 1\npower 3 0 ann: audit\ncheckpoint\ncrash 5\nann: query p(X\npower 1 9 tick\ndan: audit"
	want := `> ann: assert low p(a).
id 1
> tick
tick 1
> bob: query ann says p(X)
atoms 1
ann says p(a)
> ann! revoke 1
error 19
> power 3 0 ann: audit
lost
> checkpoint
ok
> crash 5
> ann: query p(X
error 6 at 9
> power 1 9 tick
lost
> dan: audit
error 18
`
	if got, at, errno := Run(small, script); got != want || at != 0 || errno != api.OK {
		t.Errorf("Run: %s, %d, %d", got, at, errno)
	}
	for _, nothing := range []string{"", "\n", "# x", "\n\n#\n"} {
		if got, at, errno := Run(small, nothing); got != "" || at != 0 || errno != api.OK {
			t.Errorf("Run of %q: %q, %d, %d", nothing, got, at, errno)
		}
	}
}

func TestRunOfWrongTexts(t *testing.T) { // P25.3
	for _, script := range []string{"", "tick\nann: audit"} {
		for text, want := range map[string]int{"": 0, "label a\nlabel a": 2, small + "\nbound 2": strings.Count(small, "\n") + 2} {
			_, line, wanted := purge.Play(text, nil)
			if got, at, errno := Run(text, script); got != "" || at != line || at != want || errno != wanted || errno == api.OK {
				t.Errorf("Run of the configuration %q: %q, %d, %d", text, got, at, errno)
			}
			// What is wrong with the script goes ahead of what is wrong with the configuration.
			if got, at, errno := Run(text, "tick\n"+script+"\n?"); got != "" || at != 3+strings.Count(script, "\n") || errno != api.ErrLine {
				t.Errorf("Run of a wrong script: %q, %d, %d", got, at, errno)
			}
		}
	}
}

func TestRunTellsWhatIsPlayed(t *testing.T) { // P25.3
	var lines []string
	for line := range written() {
		lines = append(lines, line)
	}
	slices.Sort(lines)
	l, _, _ := Read(strings.Join(lines, "\n"))
	answers, _, _ := purge.Play(small, l)
	want := ""
	for i, line := range lines {
		want += "> " + line + "\n"
		if answers[i] != "" {
			want += answers[i] + "\n"
		}
	}
	if got, at, errno := Run(small, strings.Join(lines, "\n\n")); got != want || at != 0 || errno != api.OK {
		t.Errorf("Run: %s, %d, %d", got, at, errno)
	}
}
