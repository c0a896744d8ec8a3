package lex

import (
	"fmt"
	"math"
	"math/rand"
	"regexp"
	"slices"
	"strings"
	"testing"

	"mandate/api"
)

// told writes what All answers: of each token the letter of its kind and its text, or the error and its place.
func told(t *testing.T, s string) string {
	t.Helper()
	tokens, at, errno := All(s)
	if errno != api.OK {
		if len(tokens) != 0 {
			t.Errorf("All(%q): tokens beside the error %d", s, errno)
		}
		return fault(errno, at)
	}
	if at != 0 {
		t.Errorf("All(%q): the place %d without an error", s, at)
	}
	var l []string
	for _, k := range tokens {
		if k.Kind == 0 || int(k.Kind) >= len("?nv#sw") || k.From < 0 || k.From >= k.To || k.To > len(s) {
			t.Fatalf("All(%q): the token %v", s, k)
		}
		l = append(l, "?nv#sw"[k.Kind:k.Kind+1]+s[k.From:k.To])
	}
	return strings.Join(l, " ")
}

// fault writes an error as told does.
func fault(errno api.Errno, at int) string {
	return fmt.Sprintf("error %d at %d", errno, at)
}

func TestAll(t *testing.T) { // P5.2
	for s, want := range map[string]string{
		"":                "",
		" ":               "",
		" \t\t ":          "",
		"p(X):-q,7<-7.":   "np s( vX s) s:- nq s, #7 s< #-7 s.",
		"x:--5":           "nx s:- #-5",
		"x:-5":            "nx s:- #5",
		":-:-":            "s:- s:-",
		"a!=b":            "na s!= nb",
		"a-5":             "na #-5",
		"5-5":             "#5 #-5",
		"X-1-2":           "vX #-1 #-2",
		")(":              "s) s(",
		"..,,<<":          "s. s. s, s, s< s<",
		"a says b":        "na wsays nb",
		"not not":         "wnot wnot",
		"nots saysa no":   "nnots nsaysa nno",
		"a says_ not1":    "na nsays_ nnot1",
		"Not Says X_1 Xa": "vNot vSays vX_1 vXa",
		"\ta\tB\t":        "na vB",
		"0 10 -10":        "#0 #10 #-10",
		"9223372036854775807 -9223372036854775808": "#9223372036854775807 #-9223372036854775808",
		"abcdefghijklmnop Abcdefghijklmno_":        "nabcdefghijklmnop vAbcdefghijklmno_",
	} {
		if got := told(t, s); got != want {
			t.Errorf("All(%q): %s", s, got)
		}
	}
}

func TestAllRefuses(t *testing.T) { // P5.2
	for s, at := range map[string]int{
		"p a-b":                  3,
		"007":                    0,
		"a 007":                  2,
		"a,-0":                   2,
		"00":                     0,
		"1a":                     0,
		"-1a":                    0,
		"-X":                     0,
		"--1":                    0,
		"-":                      0,
		"a -":                    2,
		"- 1":                    0,
		":":                      0,
		": -":                    0,
		"a:b":                    1,
		"!":                      0,
		"! =":                    0,
		"a!b":                    1,
		"!!=":                    0,
		"=":                      0,
		"a=b":                    1,
		"a<=b":                   2,
		"a>b":                    1,
		"_":                      0,
		"_a":                     0,
		"aB":                     0,
		"a bB c":                 2,
		"a\nb":                   1,
		"a\r":                    1,
		"a\x00":                  1,
		"a\v":                    1,
		"p(\"a\")":               2,
		"é":                      0,
		"aé":                     1,
		"a\u00a0b":               1,
		"a\xff":                  1,
		"１":                      0,
		"1_0":                    0,
		"9223372036854775808":    0,
		"a -9223372036854775809": 2,
		"abcdefghijklmnopq":      0,
		"Abcdefghijklmnopq":      0,
		"a = _":                  2,
	} {
		if got := told(t, s); got != fault(api.ErrToken, at) {
			t.Errorf("All(%q): %s", s, got)
		}
	}
}

func TestAllOfLongTexts(t *testing.T) { // P5.2
	for s, want := range map[string]string{
		strings.Repeat(" ", api.MaxText):          "",
		strings.Repeat(" ", api.MaxText-1) + "a":  "na",
		strings.Repeat(" ", api.MaxText-1) + "=":  fault(api.ErrToken, api.MaxText-1),
		strings.Repeat("a", api.MaxText):          fault(api.ErrToken, 0),
		strings.Repeat(" ", api.MaxText+1):        fault(api.ErrLong, 0),
		strings.Repeat(" ", api.MaxText) + "a":    fault(api.ErrLong, 0),
		strings.Repeat("=", api.MaxText+1):        fault(api.ErrLong, 0),
		strings.Repeat("a ", 1<<20):               fault(api.ErrLong, 0),
		"a" + strings.Repeat("\xff", api.MaxText): fault(api.ErrLong, 0),
	} {
		if got := told(t, s); got != want {
			t.Errorf("All of %d bytes: %.40s", len(s), got)
		}
	}
	tokens, _, errno := All(strings.Repeat("(", api.MaxText))
	if errno != api.OK || len(tokens) != api.MaxText {
		t.Fatalf("All of signs: %d tokens, %d", len(tokens), errno)
	}
	for i, k := range tokens {
		if k != (api.Token{Kind: api.TSign, From: i, To: i + 1}) {
			t.Fatalf("the sign at %d: %v", i, k)
		}
	}
}

func TestPlaces(t *testing.T) { // P5.2
	tokens, at, errno := All(" ab :-\tX!=-12. not")
	want := []api.Token{
		{Kind: api.TName, From: 1, To: 3},
		{Kind: api.TSign, From: 4, To: 6},
		{Kind: api.TVar, From: 7, To: 8},
		{Kind: api.TSign, From: 8, To: 10},
		{Kind: api.TNum, From: 10, To: 13},
		{Kind: api.TSign, From: 13, To: 14},
		{Kind: api.TWord, From: 15, To: 18},
	}
	if errno != api.OK || at != 0 || !slices.Equal(tokens, want) {
		t.Errorf("%v, %d, %d", tokens, at, errno)
	}
}

func one(t *testing.T, s string, at int, want api.Token, errno api.Errno) {
	t.Helper()
	if k, e := One(s, at); k != want || e != errno {
		t.Errorf("One(%q, %d): %v, %d", s, at, k, e)
	}
}

func TestOne(t *testing.T) { // P5.1
	one(t, "a", 0, api.Token{Kind: api.TName, From: 0, To: 1}, api.OK)
	one(t, "abc", 1, api.Token{Kind: api.TName, From: 1, To: 3}, api.OK)
	one(t, "p :- says", 5, api.Token{Kind: api.TWord, From: 5, To: 9}, api.OK)
	one(t, "p :- says", 6, api.Token{Kind: api.TName, From: 6, To: 9}, api.OK)
	one(t, "knot", 1, api.Token{Kind: api.TWord, From: 1, To: 4}, api.OK)
	one(t, "x:-5", 1, api.Token{Kind: api.TSign, From: 1, To: 3}, api.OK)
	one(t, "x:-5", 2, api.Token{Kind: api.TNum, From: 2, To: 4}, api.OK)
	one(t, "x:-5", 3, api.Token{Kind: api.TNum, From: 3, To: 4}, api.OK)
	one(t, "007", 2, api.Token{Kind: api.TNum, From: 2, To: 3}, api.OK)
	one(t, "aXY)", 1, api.Token{Kind: api.TVar, From: 1, To: 3}, api.OK)
	one(t, "=\xff)=", 2, api.Token{Kind: api.TSign, From: 2, To: 3}, api.OK)
	one(t, "a=", 0, api.Token{Kind: api.TName, From: 0, To: 1}, api.OK)
	one(t, "<=", 0, api.Token{Kind: api.TSign, From: 0, To: 1}, api.OK)
}

func TestOneRefuses(t *testing.T) { // P5.1
	for _, at := range []int{-1, 3, 4, math.MinInt, math.MaxInt} {
		one(t, "a b", at, api.Token{}, api.ErrArg)
		one(t, "  =", at, api.Token{}, api.ErrArg)
	}
	for _, at := range []int{-1, 0, 1} {
		one(t, "", at, api.Token{}, api.ErrArg)
	}
	one(t, "a b", 1, api.Token{}, api.ErrNone)
	one(t, "a\tb", 1, api.Token{}, api.ErrNone)
	one(t, " ", 0, api.Token{}, api.ErrNone)
	one(t, "a\nb", 1, api.Token{}, api.ErrToken)
	one(t, "007", 0, api.Token{}, api.ErrToken)
	one(t, "007", 1, api.Token{}, api.ErrToken)
	one(t, "a1b", 1, api.Token{}, api.ErrToken)
	one(t, "a-b", 1, api.Token{}, api.ErrToken)
	one(t, "a!=b", 2, api.Token{}, api.ErrToken)
	one(t, "a:-b", 2, api.Token{}, api.ErrToken)
	one(t, "a:", 1, api.Token{}, api.ErrToken)
}

func TestOneOfLongTexts(t *testing.T) { // P5.1
	long := strings.Repeat(" ", 1<<20)
	one(t, long+"a)", 1<<20, api.Token{Kind: api.TName, From: 1 << 20, To: 1<<20 + 1}, api.OK)
	one(t, long, 1<<20-1, api.Token{}, api.ErrNone)
	one(t, long, 1<<20, api.Token{}, api.ErrArg)
	for _, c := range []string{"a", "A", "9", "_"} {
		one(t, strings.Repeat(c, 1<<20), 0, api.Token{}, api.ErrToken)
	}
}

func TestOneOfEachByte(t *testing.T) { // P5.1
	for b := range 256 {
		s := string([]byte{byte(b)})
		kind, errno := uint8(0), api.ErrToken
		switch {
		case s == " " || s == "\t":
			errno = api.ErrNone
		case strings.Contains("abcdefghijklmnopqrstuvwxyz", s):
			kind, errno = api.TName, api.OK
		case strings.Contains("ABCDEFGHIJKLMNOPQRSTUVWXYZ", s):
			kind, errno = api.TVar, api.OK
		case strings.Contains("0123456789", s):
			kind, errno = api.TNum, api.OK
		case strings.Contains("(),.<", s):
			kind, errno = api.TSign, api.OK
		}
		want := api.Token{Kind: kind, From: 2, To: 3}
		if errno != api.OK {
			want = api.Token{}
		}
		one(t, "a."+s, 2, want, errno)
		one(t, "a:"+s+"(", 2, want, errno)
	}
}

// pieces are what the document's words cut a text into: whole pieces first, then signs.
var pieces = regexp.MustCompile(`^(?:[a-zA-Z0-9_]+|-[0-9][a-zA-Z0-9_]*|:-|!=|[(),.<])`)

// kinds are the tokens, in the order in which they are looked for.
var kinds = []struct {
	kind uint8
	form *regexp.Regexp
}{
	{api.TWord, regexp.MustCompile(`^(?:not|says)$`)},
	{api.TName, regexp.MustCompile(`^[a-z][a-z0-9_]{0,15}$`)},
	{api.TVar, regexp.MustCompile(`^[A-Z][a-zA-Z0-9_]{0,15}$`)},
	{api.TNum, regexp.MustCompile(`^(?:0|-?[1-9][0-9]{0,17})$`)},
	{api.TSign, regexp.MustCompile(`^[^a-zA-Z0-9_]+$`)},
}

// expected tells by these forms what token begins at a place that is no blank.
func expected(s string, at int) (api.Token, api.Errno) {
	piece := pieces.FindString(s[at:])
	for _, k := range kinds {
		if k.form.MatchString(piece) {
			return api.Token{Kind: k.kind, From: at, To: at + len(piece)}, api.OK
		}
	}
	return api.Token{}, api.ErrToken
}

// expectedAll tells by these forms all tokens of a text.
func expectedAll(s string) ([]api.Token, int, api.Errno) {
	var l []api.Token
	for at := 0; at < len(s); {
		if s[at] == ' ' || s[at] == '\t' {
			at++
			continue
		}
		k, errno := expected(s, at)
		if errno != api.OK {
			return nil, at, errno
		}
		l = append(l, k)
		at = k.To
	}
	return l, 0, api.OK
}

func compared(t *testing.T, s string) {
	t.Helper()
	tokens, at, errno := All(s)
	want, place, e := expectedAll(s)
	if !slices.Equal(tokens, want) || at != place || errno != e {
		t.Fatalf("All(%q): %v, %d, %d; not %v, %d, %d", s, tokens, at, errno, want, place, e)
	}
	for i := range len(s) {
		k, errno := One(s, i)
		if s[i] == ' ' || s[i] == '\t' {
			one(t, s, i, api.Token{}, api.ErrNone)
		} else if want, e := expected(s, i); k != want || errno != e {
			t.Fatalf("One(%q, %d): %v, %d", s, i, k, errno)
		}
	}
}

func TestTextsOfAllKinds(t *testing.T) { // P5.1, P5.2
	const bytes = "aX0_-:!=<(. \n"
	for n := range 5 {
		all := 1
		for range n {
			all *= len(bytes)
		}
		for x := range all {
			s := make([]byte, n)
			for i := range s {
				s[i], x = bytes[x%len(bytes)], x/len(bytes)
			}
			compared(t, string(s))
		}
	}
	parts := []string{"a", "b_2", "not", "says", "X", "Yx_", "0", "7", "12", "-", ":", "!", "=", ":-", "!=", "<", "(", ")", ",", ".", " ", "\t", "_", "é", "\n", "abcdefghijklmnop"}
	r := rand.New(rand.NewSource(5))
	for range 20000 {
		var s strings.Builder
		for range r.Intn(12) {
			s.WriteString(parts[r.Intn(len(parts))])
		}
		compared(t, s.String())
	}
}

func TestAnswersAreNewMemory(t *testing.T) { // P5.2, R4
	first, _, _ := All("a b c")
	second, _, _ := All("a b c")
	first[0] = api.Token{}
	_ = append(first[:1], api.Token{})
	if second[0].Kind != api.TName || second[1].Kind != api.TName {
		t.Errorf("the second answer: %v", second)
	}
}
