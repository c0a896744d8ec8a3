package naive

import (
	"math/rand"
	"slices"
	"strconv"
	"strings"
	"testing"

	"mandate/api"
	"mandate/clause"
	"mandate/lower"
	"mandate/sound"
)

// values are all that stand in rules, and a speaker.
func values(rules []api.Rule) []api.Value {
	l := []api.Value{{Sym: "ann"}}
	for _, r := range rules {
		for _, f := range append([]api.Flat{r.Head}, r.Body...) {
			for _, x := range f.Args {
				if x.Var == "" && !slices.Contains(l, x.Val) {
					l = append(l, x.Val)
				}
			}
		}
	}
	return l
}

// filled is a literal's text with values for its variables.
func filled(f api.Flat, given map[string]api.Value) string {
	words := []string{f.Pred}
	for _, x := range f.Args {
		words = append(words, worded(worth(x, given)))
	}
	return strings.Join(words, " ")
}

func worth(x api.Term, given map[string]api.Value) api.Value {
	if x.Var != "" {
		return given[x.Var]
	}
	return x.Val
}

func worded(v api.Value) string {
	if v.Sym != "" {
		return v.Sym
	}
	return strconv.FormatInt(v.Num, 10)
}

// stands tells by the words of the chapter whether a literal of an instance is as what was found ahead of the round has it.
func stands(f api.Flat, given map[string]api.Value, ahead map[string]api.Found) bool {
	_, found := ahead[filled(f, given)]
	if f.Kind == api.LPos || f.Kind == api.LNot {
		return found == (f.Kind == api.LPos)
	}
	a, b := worth(f.Args[0], given), worth(f.Args[1], given)
	switch {
	case f.Kind == api.LUnlike:
		return a != b
	case a.Sym == "" && b.Sym == "":
		return a.Num < b.Num
	case a.Sym == "" || b.Sym == "":
		return a.Sym == ""
	}
	return a.Sym < b.Sym
}

// instances goes through all values of a rule's variables.
func instances(names []string, all []api.Value, given map[string]api.Value, tell func()) {
	if len(names) == 0 {
		tell()
		return
	}
	for _, v := range all {
		given[names[0]] = v
		instances(names[1:], all, given, tell)
	}
}

// byTheWords is the model by the words of the chapter.
func byTheWords(c api.Config, live []api.Said, label int) map[string]api.Found {
	var rules []api.Rule
	for _, s := range live {
		if c.Up[s.Label]&(1<<label) != 0 {
			rules = append(rules, s.Rule)
		}
	}
	all, found := values(rules), map[string]api.Found{}
	for stratum := range api.MaxStrata {
		for round := 1; ; round++ {
			now := map[string]api.Found{}
			for _, r := range rules {
				if stratumOf(c, r) != stratum {
					continue
				}
				given := map[string]api.Value{}
				instances(names(r), all, given, func() {
					for _, f := range r.Body {
						if !stands(f, given, found) {
							return
						}
					}
					if _, old := found[filled(r.Head, given)]; !old {
						now[filled(r.Head, given)] = api.Found{Stratum: stratum, Round: round}
					}
				})
			}
			for text, f := range now {
				found[text] = f
			}
			if len(now) == 0 {
				break
			}
		}
	}
	return found
}

func stratumOf(c api.Config, r api.Rule) int {
	for _, p := range c.Preds {
		if p.Name == r.Head.Pred {
			return p.Stratum
		}
	}
	return -1
}

// names are a rule's variables, each once.
func names(r api.Rule) []string {
	var l []string
	for _, f := range append([]api.Flat{r.Head}, r.Body...) {
		for _, x := range f.Args {
			if x.Var != "" && !slices.Contains(l, x.Var) {
				l = append(l, x.Var)
			}
		}
	}
	return l
}

// drawn is a term or a speaker: one of some words.
func drawn(chance *rand.Rand, words string) string {
	l := strings.Fields(words)
	return l[chance.Intn(len(l))]
}

// drawnAtom is an atom of one of some predicates, each with its arity behind it.
func drawnAtom(chance *rand.Rand, preds, terms string) string {
	pred, arity, _ := strings.Cut(drawn(chance, preds), "/")
	n, _ := strconv.Atoi(arity)
	if n == 0 {
		return pred
	}
	var args []string
	for range n {
		args = append(args, drawn(chance, terms))
	}
	return pred + "(" + strings.Join(args, ", ") + ")"
}

const (
	somePreds  = "p/1 p/1 q/2 q/2 bad/1 ok/1 r/2 none/0 last/1"
	someValues = "1 2 a b ann"
	someTerms  = "X X Y Y Z Z 1 a"
)

// drawnClause is a clause, that may not be sound.
func drawnClause(chance *rand.Rand) string {
	if chance.Intn(5) == 0 {
		return drawnAtom(chance, somePreds, someValues) + "."
	}
	var body []string
	for range 1 + chance.Intn(4) {
		said := drawnAtom(chance, somePreds, someTerms)
		if chance.Intn(5) == 0 {
			said = drawn(chance, "ann bob X Y") + " says " + said
		}
		switch chance.Intn(7) {
		case 0:
			said = "not " + said
		case 2:
			said = drawn(chance, someTerms) + drawn(chance, " < != ") + drawn(chance, someTerms)
		}
		body = append(body, said)
	}
	return drawnAtom(chance, somePreds, someTerms) + " :- " + strings.Join(body, ", ") + "."
}

// drawnLive is a live list of sound clauses.
func drawnLive(chance *rand.Rand, c api.Config, many int) []api.Said {
	var l []api.Said
	for len(l) < many {
		cl, _, errno := clause.Parse(drawnClause(chance))
		user := chance.Intn(6) / 5
		if errno != api.OK || sound.Check(c, user, cl) != api.OK {
			continue
		}
		r, _ := lower.Rule(c, user, cl)
		label := low
		if chance.Intn(3) == 0 {
			label = chance.Intn(4)
		}
		l = append(l, api.Said{User: user, No: len(l) + 1, Label: label, Rule: r})
	}
	slices.SortStableFunc(l, func(a, b api.Said) int { return a.User - b.User })
	return l
}

// differs tells an atom that two models have not alike, or how many they have.
func differs(l []api.Found, want map[string]api.Found) string {
	if len(l) != len(want) {
		return strconv.Itoa(len(l)) + " atoms, not " + strconv.Itoa(len(want))
	}
	for _, f := range l {
		words := []string{f.Tuple.Pred}
		for _, v := range f.Tuple.Args {
			words = append(words, worded(v))
		}
		text := strings.Join(words, " ")
		if w, ok := want[text]; !ok || w.Stratum != f.Stratum || w.Round != f.Round {
			return text
		}
	}
	return ""
}

func TestManyModels(t *testing.T) { // P11.1
	chance := rand.New(rand.NewSource(11))
	c := given(t, api.MaxBound)
	late, greatest := 0, 0
	for range 1500 {
		live := drawnLive(chance, c, 4+chance.Intn(40))
		for label := range 4 {
			want := byTheWords(c, live, label)
			l, over, errno := Model(c, live, label)
			if d := differs(l, want); d != "" || over || errno != api.OK {
				t.Fatalf("at %d: %s, %v, %d: %v", label, d, over, errno, live)
			}
			greatest = max(greatest, len(l))
			for _, f := range l {
				if f.Round > 2 {
					late++
				}
			}
		}
		label := chance.Intn(4)
		if n := len(byTheWords(c, live, label)); n > 1 {
			isOver(t, given(t, n-1), live, label)
			l, over, _ := Model(given(t, n), live, label)
			if len(l) != n || over {
				t.Fatalf("of just as many as the bound, %d: %d, %v", n, len(l), over)
			}
		}
	}
	if late < 500 || greatest < 30 {
		t.Errorf("too plain: %d late atoms, at most %d", late, greatest)
	}
}
