package prove

import (
	"cmp"
	"maps"
	"math/rand"
	"slices"
	"strconv"
	"strings"
	"testing"

	"mandate/api"
	"mandate/clause"
	"mandate/lower"
	"mandate/naive"
	"mandate/sound"
	"mandate/value"
)

// oracle knows the ways to all atoms of a model by the words of the chapter: it goes through all values of all variables.
type oracle struct {
	found map[string]api.Found
	first map[string]candidate
	all   []api.Value
	rival int // how many ways were held against one another
	close int // how many of them by their kids alone
}

// candidate is a way to an atom.
type candidate struct {
	said api.Said
	kids []api.Tuple
	nots []api.Tuple
}

// worth is a term's value.
func worth(x api.Term, values map[string]api.Value) api.Value {
	if x.Var != "" {
		return values[x.Var]
	}
	return x.Val
}

func filled(f api.Flat, values map[string]api.Value) api.Tuple {
	x := api.Tuple{Pred: f.Pred}
	for _, a := range f.Args {
		x.Args = append(x.Args, worth(a, values))
	}
	return x
}

// names are a rule's variables, each once.
func names(r api.Rule) []string {
	var l []string
	for _, f := range append([]api.Flat{r.Head}, r.Body...) {
		for _, x := range f.Args {
			if x.Var != "" && !slices.Contains(l, x.Var) {
				l = append(l, x.Var)
			}
		}
	}
	return l
}

// consult makes an oracle for a label.
func consult(c api.Config, live []api.Said, label int) *oracle {
	o := &oracle{found: map[string]api.Found{}, first: map[string]candidate{}}
	model, _, _ := naive.Model(c, live, label)
	for _, f := range model {
		o.found[spelt(f.Tuple)] = f
		for _, v := range f.Tuple.Args {
			if !slices.Contains(o.all, v) {
				o.all = append(o.all, v)
			}
		}
	}
	for _, s := range live {
		if c.Up[s.Label]&(1<<label) != 0 {
			o.instances(s, names(s.Rule), map[string]api.Value{})
		}
	}
	return o
}

// instances goes through all values of a rule's variables.
func (o *oracle) instances(s api.Said, names []string, values map[string]api.Value) {
	if len(names) == 0 {
		o.instance(s, values)
		return
	}
	for _, v := range o.all {
		values[names[0]] = v
		o.instances(s, names[1:], values)
	}
}

// instance keeps a way, if it is one, and none ahead of it is known.
func (o *oracle) instance(s api.Said, values map[string]api.Value) {
	head := spelt(filled(s.Rule.Head, values))
	goal, ok := o.found[head]
	if !ok {
		return
	}
	w := candidate{said: s}
	for _, f := range s.Rule.Body {
		x := filled(f, values)
		kid, there := o.found[spelt(x)]
		switch f.Kind {
		case api.LPos:
			below, ahead := kid.Stratum < goal.Stratum, kid.Stratum == goal.Stratum && kid.Round < goal.Round
			if !there || !below && !ahead {
				return
			}
			w.kids = append(w.kids, x)
		case api.LNot:
			if there {
				return
			}
			w.nots = append(w.nots, x)
		case api.LLess:
			if value.Compare(x.Args[0], x.Args[1]) >= 0 {
				return
			}
		case api.LUnlike:
			if x.Args[0] == x.Args[1] {
				return
			}
		}
	}
	old, ok := o.first[head]
	if ok {
		o.rival++
	}
	if ok && old.said.User == s.User && old.said.No == s.No {
		o.close++
	}
	if !ok || goesAhead(w, old) {
		o.first[head] = w
	}
}

// goesAhead: is a way ahead of another one?
func goesAhead(a, b candidate) bool {
	n := cmp.Or(cmp.Compare(a.said.User, b.said.User), cmp.Compare(a.said.No, b.said.No))
	for i := 0; n == 0 && i < len(a.kids); i++ {
		n = value.Order(a.kids[i], b.kids[i])
	}
	return n < 0
}

// proof is that of an atom by the words of the chapter.
func (o *oracle) proof(atom string) []api.Node {
	wanted := map[string]int{}
	var want func(string)
	want = func(atom string) {
		if _, ok := wanted[atom]; !ok {
			wanted[atom] = 0
			for _, kid := range o.first[atom].kids {
				want(spelt(kid))
			}
		}
	}
	want(atom)
	order := slices.SortedFunc(maps.Keys(wanted), func(a, b string) int {
		x, y := o.found[a], o.found[b]
		return cmp.Or(cmp.Compare(x.Stratum, y.Stratum), cmp.Compare(x.Round, y.Round), value.Order(x.Tuple, y.Tuple))
	})
	var l []api.Node
	for i, atom := range order {
		wanted[atom] = i
		w := o.first[atom]
		n := api.Node{User: w.said.User, No: w.said.No, Tuple: o.found[atom].Tuple, Nots: w.nots}
		for _, kid := range w.kids {
			n.Kids = append(n.Kids, wanted[spelt(kid)])
		}
		l = append(l, n)
	}
	return l
}

// drawn is a term or a speaker: one of some words.
func drawn(chance *rand.Rand, words string) string {
	l := strings.Fields(words)
	return l[chance.Intn(len(l))]
}

// drawnAtom is an atom of one of some predicates, each with its arity behind it.
func drawnAtom(chance *rand.Rand, preds, terms string) string {
	pred, arity, _ := strings.Cut(drawn(chance, preds), "/")
	n, _ := strconv.Atoi(arity)
	if n == 0 {
		return pred
	}
	var args []string
	for range n {
		args = append(args, drawn(chance, terms))
	}
	return pred + "(" + strings.Join(args, ", ") + ")"
}

const (
	somePreds  = "p/1 p/1 q/2 q/2 bad/1 ok/1 r/2 none/0 last/1"
	fewPreds   = "p/1 q/2 q/2 q/2 bad/1 r/2"
	someValues = "1 2 a b ann"
	someTerms  = "X X Y Y Z Z 1 a"
	variables  = "X Y Z W X Y"
)

// drawnClause is a clause, that may not be sound.
func drawnClause(chance *rand.Rand, preds, terms string) string {
	if chance.Intn(5) < 2 {
		return drawnAtom(chance, preds, someValues) + "."
	}
	var body []string
	for range 1 + chance.Intn(5) {
		atom := drawnAtom(chance, preds, terms)
		if chance.Intn(5) == 0 {
			atom = drawn(chance, "ann bob X Y W") + " says " + atom
		}
		switch chance.Intn(9) {
		case 0:
			atom = "not " + atom
		case 2:
			atom = drawn(chance, terms) + drawn(chance, " < != ") + drawn(chance, terms)
		}
		body = append(body, atom)
	}
	return drawnAtom(chance, preds, terms) + " :- " + strings.Join(body, ", ") + "."
}

// drawnLive is a live list of sound clauses.
func drawnLive(chance *rand.Rand, c api.Config, many int) []api.Said {
	var l []api.Said
	preds, terms := somePreds, someTerms
	if chance.Intn(2) == 0 {
		preds, terms = fewPreds, variables
	}
	for len(l) < many {
		cl, _, errno := clause.Parse(drawnClause(chance, preds, terms))
		user := chance.Intn(6) / 5
		if errno != api.OK || sound.Check(c, user, cl) != api.OK {
			continue
		}
		r, _ := lower.Rule(c, user, cl)
		label := low
		if chance.Intn(2) == 0 {
			label = chance.Intn(len(c.Labels))
		}
		l = append(l, api.Said{User: user, No: len(l) + 1, Label: label, Rule: r})
	}
	chance.Shuffle(len(l), func(i, j int) {
		l[i].Rule, l[j].Rule, l[i].User, l[j].User = l[j].Rule, l[i].Rule, l[j].User, l[i].User
	})
	slices.SortStableFunc(l, func(a, b api.Said) int { return a.User - b.User })
	return l
}

func TestManyProofs(t *testing.T) { // P15.1, P15.2
	chance := rand.New(rand.NewSource(15))
	c := given(t, api.MaxBound)
	proofs, rival, close, longest, deepest := 0, 0, 0, 0, 0
	for range 500 {
		live := drawnLive(chance, c, 4+chance.Intn(40))
		label := chance.Intn(4)
		o := consult(c, live, label)
		rival, close = rival+o.rival, close+o.close
		for atom, f := range o.found {
			l, errno := Prove(c, live, label, f.Tuple)
			want := o.proof(atom)
			if got := told(l); !slices.Equal(got, told(want)) || errno != api.OK {
				t.Fatalf("%s at %d: %d:\n%s\nnot\n%s\nof %v", atom, label, errno, strings.Join(got, "\n"), strings.Join(told(want), "\n"), live)
			}
			proofs++
			longest, deepest = max(longest, len(l)), max(deepest, Depth(l))
		}
	}
	if proofs < 7000 || rival < 5000 || close < 2000 || longest < 15 || deepest < 6 {
		t.Errorf("too plain: %d proofs, %d and %d rivals, %d nodes, %d deep", proofs, rival, close, longest, deepest)
	}
}
