package clause

import (
	"maps"
	"math/rand"
	"slices"
	"strings"
	"testing"

	"mandate/api"
)

func parsed(t *testing.T, s string, want api.Clause) {
	t.Helper()
	if c, at, errno := Parse(s); errno != api.OK || at != 0 || !same(c, want) {
		t.Errorf("Parse(%q): %v, %d, %d", s, c, at, errno)
	}
}

func refused(t *testing.T, s string, at int, errno api.Errno) {
	t.Helper()
	if c, place, e := Parse(s); e != errno || place != at || !same(c, api.Clause{}) {
		t.Errorf("Parse(%q): %v, %d, %d", s, c, place, e)
	}
}

func parsedLit(t *testing.T, s string, want api.Lit) {
	t.Helper()
	if l, at, errno := ParseLit(s); errno != api.OK || at != 0 || !sameLit(l, want) {
		t.Errorf("ParseLit(%q): %v, %d, %d", s, l, at, errno)
	}
}

func refusedLit(t *testing.T, s string, at int, errno api.Errno) {
	t.Helper()
	if l, place, e := ParseLit(s); e != errno || place != at || !sameLit(l, api.Lit{}) {
		t.Errorf("ParseLit(%q): %v, %d, %d", s, l, place, e)
	}
}

func TestParse(t *testing.T) { // P6.1
	for s, c := range written() {
		parsed(t, s, c)
		parsed(t, " \t"+strings.ReplaceAll(s, " ", "\t ")+"  ", c)
	}
	parsed(t, "ok(X):-bob says friend(X),not bad(X),X!=me.", written()["ok(X) :- bob says friend(X), not bad(X), X != me."])
	parsed(t, "p ( a , b ) .", made(pos("p", sym("a"), sym("b"))))
	parsed(t, "p(a,b)\t:-7<-7.", made(pos("p", sym("a"), sym("b")), less(num(7), num(-7))))
	parsed(t, "p:-a1<-2.", made(pos("p"), less(sym("a1"), num(-2))))
	parsed(t, strings.Repeat(" ", api.MaxText-2)+"p.", made(pos("p")))
}

func TestParseRefuses(t *testing.T) { // P6.1
	for s, at := range map[string]int{
		"":                         0,
		"   ":                      3,
		".":                        0,
		"p":                        1,
		"p  ":                      3,
		"p(a":                      3,
		"p(a  ":                    5,
		"p(":                       2,
		"p()":                      2,
		"p(,a).":                   2,
		"p(a,).":                   4,
		"p(a b).":                  4,
		"p(a)(b).":                 4,
		"p(q(a)).":                 3,
		"p(a < b).":                4,
		"p(not).":                  2,
		"p(a says b).":             4,
		"p)":                       1,
		"p(a.":                     3,
		"p..":                      2,
		"p. q.":                    3,
		"p(a). ,":                  6,
		"X.":                       0,
		"X says p.":                0,
		"7.":                       0,
		"not p.":                   0,
		"a says p.":                2,
		"p, q.":                    1,
		"p(a, b, c, d), q.":        13,
		"a < b.":                   2,
		"a != b.":                  2,
		":- p.":                    0,
		"p :-":                     4,
		"p :- ":                    5,
		"p :- .":                   5,
		"p :- ,":                   5,
		"p :- :-":                  5,
		"p :- X.":                  6,
		"p :- X,":                  6,
		"p :- X(a).":               6,
		"p :- X not":               7,
		"p :- 7.":                  6,
		"p :- 7(a).":               6,
		"p :- 7 says q.":           7,
		"p :- 7 q.":                7,
		"p :- not.":                8,
		"p :- not not q.":          9,
		"p :- not 7.":              9,
		"p :- not 7 < 8.":          9,
		"p :- not X < 8.":          11,
		"p :- not X != 8.":         11,
		"p :- not X.":              10,
		"p :- not a < 8.":          11,
		"p :- not a says b < 8.":   18,
		"p :- not < 8.":            9,
		"p :- says q.":             5,
		"p :- says says q.":        5,
		"p :- X says.":             11,
		"p :- X says Y.":           12,
		"p :- X says 7.":           12,
		"p :- X says not q.":       12,
		"p :- X says q says r.":    14,
		"p :- X says q < 3.":       14,
		"p :- q says.":             11,
		"p :- q says X < 3.":       12,
		"p :- q(a) says r.":        10,
		"p :- q(a) < 3.":           10,
		"p :- q(a) != b.":          10,
		"p :- q < .":               9,
		"p :- q < r(a).":           10,
		"p :- q < not.":            9,
		"p :- q < r < s.":          11,
		"p :- < r.":                5,
		"p :- != r.":               5,
		"p :- ( < r.":              5,
		"p :- q r.":                7,
		"p :- q X.":                7,
		"p :- q 7.":                7,
		"p :- q not r.":            7,
		"p :- q,.":                 7,
		"p :- q,":                  7,
		"p :- q, ":                 8,
		"p :- q :- r.":             7,
		"p :- q)":                  6,
		"p :- q, r, s, t, u, X, v": 21,
		"p(a, b, c, d":             12,
		"p(a, b, c, d e":           13,
		"p(a, b, c, X) :- X, Y.":   18,
	} {
		refused(t, s, at, api.ErrSyntax)
	}
}

func TestParseOfTooMany(t *testing.T) { // P6.1
	refused(t, "p(a, b, c, d, e).", 12, api.ErrLong)
	refused(t, "p(a, b, c, d,", 12, api.ErrLong)
	refused(t, "p(X,1,X,1,(.", 9, api.ErrLong)
	refused(t, "p :- q(a, b, c, d, e).", 17, api.ErrLong)
	refused(t, "p :- not X says q(a, b, c, d, e).", 28, api.ErrLong)
	refused(t, "p :- q, q, q, q, q, q, q.", 21, api.ErrLong)
	refused(t, "p :- q, q, q, q, q, q,", 21, api.ErrLong)
	refused(t, "p :- q, q, q, q, q, q, :-", 21, api.ErrLong)
	refused(t, "p :- q, q, q, q, q, 1 < 2, q.", 25, api.ErrLong)
	refused(t, "p :- q, q, q, q, q, q(a, b, c, d), q.", 33, api.ErrLong)
	refused(t, "p :- q, q, q, q, q, q(a, b, c, d, e), q.", 32, api.ErrLong)
	refused(t, "p :- q, q, q, q, q, not X says q, q.", 32, api.ErrLong)
	refused(t, "p :- q, q, q, q, q, q. ,", 23, api.ErrSyntax)
	refused(t, "p :- q, q, q, q, q, q q", 22, api.ErrSyntax)
	refused(t, "p :- q, q, q, q, q, q", 21, api.ErrSyntax)
	refused(t, "p :- q, q, q, q, q, X,", 21, api.ErrSyntax)
}

func TestParseOfNoTokens(t *testing.T) { // P6.1
	refused(t, "p(a) :- q\n.", 9, api.ErrToken)
	refused(t, ") ) X =", 6, api.ErrToken)
	refused(t, "p(a, b, c, d, e) 007", 17, api.ErrToken)
	refused(t, "_", 0, api.ErrToken)
	refused(t, strings.Repeat(" ", api.MaxText-1)+"p.", 0, api.ErrLong)
	refused(t, "="+strings.Repeat(".", api.MaxText), 0, api.ErrLong)
	refused(t, strings.Repeat(" ", api.MaxText), api.MaxText, api.ErrSyntax)
	refused(t, strings.Repeat("(", api.MaxText), 0, api.ErrSyntax)
	refusedLit(t, "p(a) =", 5, api.ErrToken)
	refusedLit(t, "7 007", 2, api.ErrToken)
	refusedLit(t, strings.Repeat(" ", api.MaxText)+"p", 0, api.ErrLong)
}

func TestParseLit(t *testing.T) { // P6.1
	for s, l := range asked() {
		parsedLit(t, s, l)
		parsedLit(t, "\t"+strings.ReplaceAll(s, " ", " \t")+" ", l)
	}
	for s, at := range map[string]int{
		"":                     0,
		" ":                    1,
		"p.":                   1,
		"p(a).":                4,
		"p :- q":               2,
		"p, q":                 1,
		"p(a), q":              4,
		"p q":                  2,
		"not p":                0,
		"X":                    1,
		"X ":                   2,
		"X(a)":                 1,
		"X < 3":                2,
		"X, Y":                 1,
		"7":                    0,
		"7 says p":             0,
		"7 < 8":                0,
		"a < 8":                2,
		"a != b":               2,
		"a says":               6,
		"a says X":             7,
		"a says 7":             7,
		"a says not p":         7,
		"a says b says c":      9,
		"says p":               0,
		"p(":                   2,
		"p()":                  2,
		"p(a":                  3,
		"p(a)(b)":              4,
		"X says p(a":           10,
		"bob says p(a, b,":     16,
		"p(a, b, c, d), q":     13,
		"p(a, b, c, d) says p": 14,
	} {
		refusedLit(t, s, at, api.ErrSyntax)
	}
	refusedLit(t, "p(a, b, c, d, e)", 12, api.ErrLong)
	refusedLit(t, "bob says p(a, b, c, X,", 21, api.ErrLong)
}

// words are the tokens of which texts are made below; any other name, variable or number stands in the same places.
var words = []string{"p", "X", "7", "not", "says", "(", ")", ",", ".", "<", "!=", ":-"}

// goesOn is the grammar as a machine: of each place, and each word that may stand there, the next place. (Of lists and their commas see walk.)
var goesOn = map[string]map[string]string{
	"clause":   {"p": "head"},
	"head":     {"(": "first", ":-": "literal", ".": "end"},
	"first":    {"p": "firsts", "X": "firsts", "7": "firsts"},
	"firsts":   {",": "first", ")": "closed"},
	"closed":   {":-": "literal", ".": "end"},
	"literal":  {"p": "name", "X": "variable", "7": "number", "not": "said"},
	"name":     {"says": "atom", "(": "term", "<": "second", "!=": "second", ",": "literal", ".": "end"},
	"variable": {"says": "atom", "<": "second", "!=": "second"},
	"number":   {"<": "second", "!=": "second"},
	"second":   {"p": "over", "X": "over", "7": "over"},
	"said":     {"p": "whose", "X": "who"},
	"whose":    {"says": "atom", "(": "term", ",": "literal", ".": "end"},
	"who":      {"says": "atom"},
	"atom":     {"p": "pred"},
	"pred":     {"(": "term", ",": "literal", ".": "end"},
	"term":     {"p": "terms", "X": "terms", "7": "terms"},
	"terms":    {",": "term", ")": "over"},
	"over":     {",": "literal", ".": "end"},

	"asked":       {"p": "asked whose", "X": "asked who"},
	"asked whose": {"says": "asked atom", "(": "asked term"},
	"asked who":   {"says": "asked atom"},
	"asked atom":  {"p": "asked pred"},
	"asked pred":  {"(": "asked term"},
	"asked term":  {"p": "asked terms", "X": "asked terms", "7": "asked terms"},
	"asked terms": {",": "asked term", ")": "end"},
}

// ends tells where a text may end.
var ends = []string{"end", "asked whose", "asked pred"}

// walk tells by that machine which of a list of words is the first wrong one and why; how many there are, if the list ends too soon; -1, if nothing is wrong.
func walk(place string, list []string) (int, api.Errno) {
	terms, literals := 0, 0
	for i, w := range list {
		next := goesOn[place][w]
		switch next {
		case "":
			return i, api.ErrSyntax
		case "first", "term", "asked term":
			if w == "(" {
				terms = 0
			}
			if terms++; terms > api.MaxArity {
				return i, api.ErrLong
			}
		case "literal":
			if literals++; literals > api.MaxBody {
				return i, api.ErrLong
			}
		}
		place = next
	}
	if !slices.Contains(ends, place) {
		return len(list), api.ErrSyntax
	}
	return -1, api.OK
}

// walked holds what is answered of a list of words against the machine.
func walked(t *testing.T, list []string) {
	t.Helper()
	s := strings.Join(list, " ")
	place := func(i int) int {
		switch i {
		case -1:
			return 0
		case len(list):
			return len(s)
		}
		return len(strings.Join(list[:i], " ")) + min(i, 1)
	}
	i, want := walk("clause", list)
	c, at, errno := Parse(s)
	if errno != want || at != place(i) || errno != api.OK && !same(c, api.Clause{}) {
		t.Fatalf("Parse(%q): %d, %d; not %d, %d", s, at, errno, place(i), want)
	}
	if errno == api.OK {
		printed(t, s, c)
	}
	i, want = walk("asked", list)
	l, at, errno := ParseLit(s)
	if errno != want || at != place(i) || errno != api.OK && !sameLit(l, api.Lit{}) {
		t.Fatalf("ParseLit(%q): %d, %d; not %d, %d", s, at, errno, place(i), want)
	}
	if text, e := PrintLit(l); errno == api.OK && (e != api.OK || squeezed(text) != squeezed(s)) {
		t.Fatalf("PrintLit of %q: %q, %d", s, text, e)
	}
}

// printed looks whether a clause that was read may be, and is printed as it was written.
func printed(t *testing.T, s string, c api.Clause) {
	t.Helper()
	text, errno := Print(c)
	if !Check(c) || errno != api.OK || squeezed(text) != squeezed(s) {
		t.Fatalf("Print of %q: %q, %d", s, text, errno)
	}
	again, _, errno := Parse(text)
	if errno != api.OK || !same(again, c) {
		t.Fatalf("Parse(%q): %v, %d", text, again, errno)
	}
	if strings.Contains(text, "X") != (len(Vars(c)) == 1) || Fact(c) != !strings.ContainsAny(text, "X:") {
		t.Fatalf("of %q: %v, %v", text, Vars(c), Fact(c))
	}
}

// squeezed is a text without the blanks.
func squeezed(s string) string {
	return strings.ReplaceAll(s, " ", "")
}

func TestAllShortTexts(t *testing.T) { // P6.1, P6.2, P6.3, P6.4
	for n := range 6 {
		all := 1
		for range n {
			all *= len(words)
		}
		list := make([]string, n)
		for x := range all {
			for i := range list {
				list[i], x = words[x%len(words)], x/len(words)
			}
			walked(t, list)
		}
	}
}

// wander is a list of words each of which mostly may stand behind the one ahead of it.
func wander(r *rand.Rand, place string) []string {
	var list []string
	for len(list) < 80 && r.Intn(80) > 0 {
		may := slices.Sorted(maps.Keys(goesOn[place]))
		if len(may) == 0 && r.Intn(5) > 0 {
			break
		}
		w := words[r.Intn(len(words))]
		if len(may) > 0 && r.Intn(80) > 0 {
			w = may[r.Intn(len(may))]
		}
		list = append(list, w)
		place = goesOn[place][w]
	}
	return list
}

func TestLongerTexts(t *testing.T) { // P6.1, P6.2, P6.3, P6.4
	r := rand.New(rand.NewSource(6))
	for range 20000 {
		walked(t, wander(r, "clause"))
		walked(t, wander(r, "asked"))
		walked(t, append([]string{"p", ":-"}, wander(r, "literal")...))
	}
}

func TestAnswersShareNothing(t *testing.T) { // P6.1, R4
	const s = "p(a, b) :- q(a, b), a < b."
	first, _, _ := Parse(s)
	second, _, _ := Parse(s)
	want, _, _ := Parse(s)
	first.Head.Args[0], first.Body[0].Args[0], first.Body[1].Args[1] = num(1), num(2), num(3)
	for _, l := range [][]api.Term{first.Head.Args, first.Body[0].Args, first.Body[1].Args} {
		_ = append(l, num(4))
	}
	if !same(second, want) {
		t.Errorf("the second answer: %v", second)
	}
	if first.Head.Args[1] != sym("b") || first.Body[0].Args[1] != sym("b") || first.Body[1].Args[0] != sym("a") {
		t.Errorf("the first answer: %v", first)
	}
}
