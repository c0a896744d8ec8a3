package config

import (
	"math/rand"
	"slices"
	"strconv"
	"strings"
	"testing"

	"mandate/api"
	"mandate/poset"
	"mandate/value"
)

// rest is what the configuration of a text of labels lacks.
const rest = "\nbound 9\npurse 3 100"

// parsed looks whether a text is a configuration.
func parsed(t *testing.T, text string, want api.Config) {
	t.Helper()
	c, line, e := Parse(text)
	if e != api.OK || line != 0 || !same(c, want) {
		t.Errorf("Parse(%q): %v, %d, %d", text, c, line, e)
	}
	if e == api.OK && !Right(c) {
		t.Errorf("Right of %q: false", text)
	}
}

// refused looks whether a text is refused, why and where.
func refused(t *testing.T, text string, line int, want api.Errno) {
	t.Helper()
	if c, at, e := Parse(text); e != want || at != line || !same(c, api.Config{}) {
		t.Errorf("Parse(%q): %v, %d, %d; not %d, %d", text, c, at, e, line, want)
	}
}

func TestParse(t *testing.T) { // P7.1
	const lines = "label low\nlabel high\nabove high low\nuser ann low\npred p 1 0\nbound 9\npurse 3 100"
	parsed(t, lines, small())
	parsed(t, lines+"\n", small())
	parsed(t, lines+"\n\n \n\t", small())
	parsed(t, "\n# all of it\n"+lines, small())
	parsed(t, strings.ReplaceAll(lines, " ", "\t \t"), small())
	parsed(t, strings.ReplaceAll(lines, "\n", "\t\n  "), small())
	parsed(t, strings.ReplaceAll(lines, "\n", "\n#\n #label x y\n\t# \x00\xff\r =\n#label low\n"), small())
	parsed(t, "purse 3 100\nbound 9\npred p 1 0\nlabel low\nuser ann low\nlabel high\nabove high low", small())
	parsed(t, lines+"\nabove high low\nabove low low\nabove high high", small())
	parsed(t, "label a\nbound 1\npurse 0 0", api.Config{Labels: []string{"a"}, Up: []uint64{1}, Bound: 1})
}

func TestParseOfEdges(t *testing.T) { // P7.1
	const lines = "label label\nlabel n0123456789abcde\nuser label label\nuser low n0123456789abcde\n" +
		"pred label 0 7\npred p 4 0\nbound 4096\npurse 0 1099511627776"
	parsed(t, lines, api.Config{
		Labels: []string{"label", "n0123456789abcde"},
		Up:     []uint64{1, 2},
		Users:  []api.User{{Name: "label", Label: 0}, {Name: "low", Label: 1}},
		Preds:  []api.Pred{{Name: "label", Stratum: 7}, {Name: "p", Arity: 4}},
		Bound:  4096,
		Purse:  complex(0, 1<<40),
	})
	parsed(t, "label a\nlabel b\nlabel c\nabove a b\nabove b c\nbound 7\npurse 1099511627776 0", api.Config{
		Labels: []string{"a", "b", "c"},
		Up:     []uint64{1, 3, 7},
		Bound:  7,
		Purse:  complex(1<<40, 0),
	})
}

func TestParseOfLongTexts(t *testing.T) { // P7.1
	lines := "label a\nbound 1\npurse 0 0\n"
	one := api.Config{Labels: []string{"a"}, Up: []uint64{1}, Bound: 1}
	for _, c := range []string{"\n", " ", "#"} {
		parsed(t, lines+strings.Repeat(c, api.MaxConfig-len(lines)), one)
		refused(t, lines+strings.Repeat(c, api.MaxConfig+1-len(lines)), 0, api.ErrLong)
	}
	refused(t, strings.Repeat("x", api.MaxConfig), 1, api.ErrLine)
	refused(t, strings.Repeat("x", api.MaxConfig+1), 0, api.ErrLong)
	refused(t, strings.Repeat("\n", api.MaxConfig), 0, api.ErrLine)
	refused(t, strings.Repeat("\n", api.MaxConfig-1)+"x", api.MaxConfig, api.ErrLine)
	text, _ := Print(full(t))
	parsed(t, text, full(t))
}

func TestParseOfLinesThatAreNone(t *testing.T) { // P7.1
	for _, line := range []string{
		"x", "labels a", "Label c", "label", "label c d", "label C", "label 7", "label c7-", "label not", "label says", "label _", "label n0123456789abcdef",
		"label c\r", "label c\v", "label\u00a0c", "label c #", "label #", "label \xff", "label c\x00", "\x00", "\r", "\u00a0", "c", "7", "-", "=", "!#",
		"above", "above a", "above a b a", "above a 7", "above 7 a", "above A b", "above not b", "above b says", "above x 7", "above a b # so",
		"user", "user u", "user u a b", "user U a", "user u A", "user u 7", "user 7 a", "user not a", "user u not", "user u x y",
		"pred", "pred p", "pred p 1", "pred p 1 2 3", "pred 7 1 2", "pred P 1 2", "pred says 1 2", "pred p 5 0", "pred p 0 8", "pred p -1 0", "pred p 0 -1",
		"pred p a 0", "pred p 0 a", "pred p 01 0", "pred p 0 00", "pred p +1 0", "pred p 1.0 0", "pred p -0 0", "pred p 0 9223372036854775808", "pred p 4294967296 0", "pred p 18446744073709551616 0",
		"bound", "bound 0", "bound -1", "bound 4097", "bound 01", "bound a", "bound 1 2", "bound 0x1", "bound 1e3", "bound 9223372036854775808", "bound 4294967297", "bound 18446744073709551617", "bound -9223372036854775808",
		"purse", "purse 1", "purse 1 2 3", "purse a 1", "purse 1 a", "purse -1 0", "purse 0 -1", "purse -0 0", "purse 1099511627777 0", "purse 0 1099511627777", "purse 00 1", "purse 1 9223372036854775807", "purse 9223372036854775808 1", "purse 1.5 1", "purse 1+2i", "purse 0 18446744073709551616",
	} {
		refused(t, "label a\nlabel b\n"+line+rest, 3, api.ErrLine)
		refused(t, " \n#\n\n"+line+"\nlabel a\nx", 4, api.ErrLine)
		refused(t, "label a\nlabel b"+rest+"\n"+line, 5, api.ErrLine)
	}
}

func TestParseOfNames(t *testing.T) { // P7.1
	for _, line := range []string{
		"label a", "label b", "above a c", "above c a", "above c d", "above c c", "above label b", "above ann a", "user u c", "user ann a", "user ann b", "user ann c", "user u ann", "user u p",
		"pred p 1 0", "pred p 0 1", "pred p 4 7", "bound 9", "bound 1", "purse 3 100", "purse 0 0",
	} {
		refused(t, "label a\nlabel b\nuser ann a\npred p 1 0"+rest+"\n"+line, 7, api.ErrName)
		refused(t, "label a\nlabel b\nuser ann a\npred p 1 0\nbound 1\npurse 0 0\n\n"+line+"\nlabel c\nx", 8, api.ErrName)
	}
	refused(t, "user ann low", 1, api.ErrName)
	refused(t, "above a a\nlabel a"+rest, 1, api.ErrName)
	refused(t, "label a\nabove b a\nlabel b"+rest, 2, api.ErrName)
	refused(t, "label a\nuser ann b\nlabel b"+rest, 2, api.ErrName)
	refused(t, "bound 4\nbound 0", 2, api.ErrLine)
	refused(t, "purse 4 4\npurse 4", 2, api.ErrLine)
	refused(t, "label a\nlabel a a", 2, api.ErrLine)
}

func TestParseOfTooMany(t *testing.T) { // P7.1
	var labels, users, preds string
	for n := range api.MaxLabels {
		labels += "label " + name(n) + "\n"
		if n < api.MaxUsers {
			users += "user " + name(n) + " " + name(n) + "\n"
		}
		if n < api.MaxPreds {
			preds += "pred " + name(n) + " 1 1\n"
		}
	}
	all := labels + users + preds
	lines := strings.Count(all, "\n")
	if c, _, e := Parse(all + rest); e != api.OK || len(c.Labels) != 64 || len(c.Users) != 16 || len(c.Preds) != 32 {
		t.Errorf("Parse of as many as may be: %v, %d", c, e)
	}
	last := name(api.MaxLabels - 1)
	for line, want := range map[string]api.Errno{
		"label a":                  api.ErrFull,
		"label " + last:            api.ErrName,
		"label A":                  api.ErrLine,
		"user a " + last:           api.ErrFull,
		"user a b":                 api.ErrName,
		"user " + name(0) + " b":   api.ErrName,
		"user a 7":                 api.ErrLine,
		"pred a 0 0":               api.ErrFull,
		"pred " + name(0) + " 0 0": api.ErrName,
		"pred a 0 8":               api.ErrLine,
	} {
		refused(t, all+line+rest, lines+1, want)
	}
	refused(t, labels+"label a\nx", api.MaxLabels+1, api.ErrFull)
	refused(t, labels+users+"user a "+last+rest, api.MaxLabels+api.MaxUsers+1, api.ErrFull)
	refused(t, preds+"pred a 4 7\nlabel a"+rest, api.MaxPreds+1, api.ErrFull)
}

func TestParseOfWhatIsMissing(t *testing.T) { // P7.1
	for _, text := range []string{
		"", "\n", " \n\t", "#", "label a", "bound 9", "purse 3 100", "label a\nbound 9", "label a\npurse 3 100", "bound 9\npurse 3 100", "label a\n#bound 9\npurse 3 100",
		"label a\nlabel b\nabove a b\nabove b a", "label a\nlabel b\nabove a b\nabove b a\nbound 9", "label a\nlabel b\nabove a b\nabove b a\npurse 3 100", "pred p 1 0" + rest,
	} {
		refused(t, text, 0, api.ErrLine)
	}
	refused(t, "label a\nlabel b\nabove a b\nabove b a"+rest, 0, api.ErrOrder)
	refused(t, "label a\nlabel b\nlabel c\nabove b a\nabove c b\nabove a c"+rest, 0, api.ErrOrder)
	refused(t, "label a\nlabel b\nabove a b\nabove b a"+rest+"\nx", 7, api.ErrLine)
	refused(t, "label a\nlabel b\nabove a b\nabove b a"+rest+"\nbound 9", 7, api.ErrName)
}

// shapes tells of each first word what stands behind it: a new name, a label's name, or a number of those from the first to the second one.
var shapes = map[string][]string{
	"label": {"new"},
	"above": {"label", "label"},
	"user":  {"new", "label"},
	"pred":  {"new", "0 4", "0 7"},
	"bound": {"1 4096"},
	"purse": {"0 1099511627776", "0 1099511627776"},
}

// most tells how many there may be of a kind.
var most = map[string]int{"label": api.MaxLabels, "user": api.MaxUsers, "pred": api.MaxPreds}

// shaped: is a word, by its bytes alone, one that may stand there?
func shaped(word, shape string) bool {
	v, ok := value.Read(word)
	if least, greatest, numbers := strings.Cut(shape, " "); numbers {
		a, _ := strconv.ParseInt(least, 10, 64)
		b, _ := strconv.ParseInt(greatest, 10, 64)
		return ok && v.Sym == "" && a <= v.Num && v.Num <= b
	}
	return ok && v.Sym != ""
}

// judge tells what is wrong with a line, behind lines of which the known names of each kind are told, and makes its name known.
func judge(known map[string][]string, line string) api.Errno {
	words := strings.Fields(line)
	if len(words) == 0 || strings.HasPrefix(words[0], "#") {
		return api.OK
	}
	kind, words := words[0], words[1:]
	shape, ok := shapes[kind]
	if !ok || len(words) != len(shape) {
		return api.ErrLine
	}
	made, missing := "it", false
	for i, w := range words {
		if !shaped(w, shape[i]) {
			return api.ErrLine
		}
		if shape[i] == "new" {
			made = w
		}
		missing = missing || shape[i] == "label" && !slices.Contains(known["label"], w)
	}
	switch {
	case missing || kind != "above" && slices.Contains(known[kind], made):
		return api.ErrName
	case most[kind] > 0 && len(known[kind]) == most[kind]:
		return api.ErrFull
	}
	known[kind] = append(known[kind], made)
	return api.OK
}

// circle: do pairs of an upper and a lower label lead from one label to another and back?
func circle(pairs [][2]string) bool {
	for {
		rest := slices.DeleteFunc(slices.Clone(pairs), func(p [2]string) bool {
			under := slices.ContainsFunc(pairs, func(q [2]string) bool { return q[1] == p[0] && q != p })
			return p[0] == p[1] || !under
		})
		if len(rest) == len(pairs) {
			return len(rest) > 0
		}
		pairs = rest
	}
}

// judged tells what is wrong with lines, and with which one.
func judged(lines []string) (int, api.Errno) {
	known := map[string][]string{}
	var pairs [][2]string
	for i, line := range lines {
		if e := judge(known, line); e != api.OK {
			return i + 1, e
		}
		if words := strings.Fields(line); len(words) == 3 && words[0] == "above" {
			pairs = append(pairs, [2]string{words[1], words[2]})
		}
	}
	switch {
	case len(known["label"]) == 0 || len(known["bound"]) == 0 || len(known["purse"]) == 0:
		return 0, api.ErrLine
	case circle(pairs):
		return 0, api.ErrOrder
	}
	return 0, api.OK
}

// of tells the lines of a kind, one blank between words.
func of(kind string, lines []string) []string {
	var l []string
	for _, line := range lines {
		if words := strings.Fields(line); len(words) > 0 && words[0] == kind {
			l = append(l, strings.Join(words, " "))
		}
	}
	return l
}

// held holds what is answered of lines against what was judged of them.
func held(t *testing.T, lines []string) api.Errno {
	t.Helper()
	text := strings.Join(lines, "\n")
	line, want := judged(lines)
	c, at, e := Parse(text)
	if at != line || e != want || e != api.OK && !same(c, api.Config{}) {
		t.Fatalf("Parse(%q): %d, %d; not %d, %d", text, at, e, line, want)
	}
	if e != api.OK {
		return e
	}
	printed, _ := Print(c)
	for kind := range shapes {
		if a, b := of(kind, lines), of(kind, strings.Split(printed, "\n")); kind != "above" && !slices.Equal(a, b) {
			t.Fatalf("Parse(%q): %v", text, c)
		}
	}
	var pairs [][2]int
	for _, l := range of("above", lines) {
		words := strings.Fields(l)
		pairs = append(pairs, [2]int{slices.Index(c.Labels, words[2]), slices.Index(c.Labels, words[1])})
	}
	if up, _ := poset.Build(len(c.Labels), pairs); !slices.Equal(up, c.Up) {
		t.Fatalf("Parse(%q): Up %v, not %v", text, c.Up, up)
	}
	return api.OK
}

// slip changes lines in one place, so that they mostly are wrong.
func slip(r *rand.Rand, lines []string) []string {
	odd := []string{"", "#", "\t", "not", "x y", "7", "-1", "00", "A", "4097", "8", "5", "0", "label", "1099511627777", name(0), name(70)}
	i, j := r.Intn(len(lines)), r.Intn(len(lines))
	switch r.Intn(6) {
	case 0:
		lines[i], lines[j] = lines[j], lines[i]
	case 1:
		lines = slices.Delete(lines, i, i+1)
	case 2:
		lines = slices.Insert(lines, j, lines[i])
	case 3:
		words := strings.Fields(lines[i] + " x")
		words[r.Intn(len(words))] = odd[r.Intn(len(odd))]
		lines[i] = strings.TrimSuffix(strings.Join(words, " \t"), " \tx")
	case 4:
		if words := strings.Fields(lines[i]); len(words) == 3 && words[0] == "above" {
			lines = append(lines, "above "+words[2]+" "+words[1])
		}
	case 5:
		for n := range 40 {
			kind := []string{"label a%", "user a% " + name(0), "pred a% 1 1"}[r.Intn(3)]
			lines = append(lines, strings.ReplaceAll(kind, "%", strconv.Itoa(n)))
		}
	}
	return lines
}

func TestManyTexts(t *testing.T) { // P7.1
	r := rand.New(rand.NewSource(8))
	times := map[api.Errno]int{}
	for range 5000 {
		text, _ := Print(random(t, r, []int{3, 40, api.MaxLabels}[r.Intn(3)]))
		lines := strings.Split(text, "\n")
		for range 6 {
			times[held(t, slices.Clone(lines))]++
			lines = slip(r, lines)
			if len(lines) == 0 {
				break
			}
		}
	}
	for _, e := range []api.Errno{api.OK, api.ErrLine, api.ErrName, api.ErrFull, api.ErrOrder} {
		if times[e] < 100 {
			t.Errorf("the error %d: %d times alone", e, times[e])
		}
	}
}

func TestParseSharesNothing(t *testing.T) { // P7.1, R4
	text, _ := Print(full(t))
	first, _, _ := Parse(text)
	second, _, _ := Parse(text)
	first.Labels[0], first.Up[0], first.Users[0].Name, first.Preds[0].Name = "x", 0, "x", "x"
	if !same(second, full(t)) {
		t.Errorf("the second answer: %v", second)
	}
}
