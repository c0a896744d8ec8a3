package check

import (
	"math/rand"
	"slices"
	"strconv"
	"strings"
	"testing"

	"mandate/api"
	"mandate/bind"
	"mandate/clause"
	"mandate/lower"
	"mandate/naive"
	"mandate/prove"
	"mandate/sound"
	"mandate/value"
)

// filled is a literal with values in the places of its variables.
func filled(f api.Flat, values map[string]api.Value) api.Tuple {
	x := api.Tuple{Pred: f.Pred}
	for _, a := range f.Args {
		if a.Var != "" {
			a.Val = values[a.Var]
		}
		x.Args = append(x.Args, a.Val)
	}
	return x
}

// names are a rule's variables, each once.
func names(r api.Rule) []string {
	var l []string
	for _, f := range append([]api.Flat{r.Head}, r.Body...) {
		for _, x := range f.Args {
			if x.Var != "" && !slices.Contains(l, x.Var) {
				l = append(l, x.Var)
			}
		}
	}
	return l
}

// step is what a node says of its assertion's rule.
type step struct {
	head       api.Tuple
	kids, nots []api.Tuple
}

func (s step) values() []api.Value {
	var l []api.Value
	for _, x := range slices.Concat([]api.Tuple{s.head}, s.kids, s.nots) {
		for _, v := range x.Args {
			if !slices.Contains(l, v) {
				l = append(l, v)
			}
		}
	}
	return l
}

// some: are there values with which a rule is that step? It goes through all that stand in it.
func (s step) some(r api.Rule, names []string, values map[string]api.Value) bool {
	if len(names) == 0 {
		return s.is(r, values)
	}
	for _, v := range s.values() {
		values[names[0]] = v
		if s.some(r, names[1:], values) {
			return true
		}
	}
	return false
}

func (s step) is(r api.Rule, values map[string]api.Value) bool {
	var kids, nots []api.Tuple
	for _, f := range r.Body {
		x := filled(f, values)
		switch f.Kind {
		case api.LPos:
			kids = append(kids, x)
		case api.LNot:
			nots = append(nots, x)
		case api.LLess:
			if value.Compare(x.Args[0], x.Args[1]) >= 0 {
				return false
			}
		case api.LUnlike:
			if x.Args[0] == x.Args[1] {
				return false
			}
		}
	}
	alike := func(a, b api.Tuple) bool { return value.Order(a, b) == 0 }
	return alike(filled(r.Head, values), s.head) && slices.EqualFunc(kids, s.kids, alike) && slices.EqualFunc(nots, s.nots, alike)
}

// holdsThere: does a node hold, by the words of the chapter?
func holdsThere(w world, label int, l []api.Node, at int) bool {
	n := l[at]
	s := step{head: n.Tuple, nots: n.Nots}
	for _, k := range n.Kids {
		if k < 0 || k >= at {
			return false
		}
		s.kids = append(s.kids, l[k].Tuple)
	}
	return slices.ContainsFunc(w.live, func(one api.Said) bool {
		return one.User == n.User && one.No == n.No && w.c.Up[one.Label]&(1<<label) != 0 && s.some(one.Rule, names(one.Rule), map[string]api.Value{})
	})
}

// verdict is Accept's, by the words of the chapter.
func verdict(w world, label int, x api.Tuple, l []api.Node) api.Errno {
	if len(l) == 0 || value.Order(l[len(l)-1].Tuple, x) != 0 {
		return api.ErrProof
	}
	for i := range l {
		if !holdsThere(w, label, l, i) {
			return api.ErrProof
		}
	}
	return api.OK
}

// drawn is one of some words.
func drawn(chance *rand.Rand, words string) string {
	l := strings.Fields(words)
	return l[chance.Intn(len(l))]
}

// drawnAtom is an atom of a predicate, each of which has its arity behind it.
func drawnAtom(chance *rand.Rand, terms string) string {
	pred, arity, _ := strings.Cut(drawn(chance, "p/1 p/1 q/2 q/2 bad/1 ok/1 r/2 none/0 last/1"), "/")
	n, _ := strconv.Atoi(arity)
	if n == 0 {
		return pred
	}
	var args []string
	for range n {
		args = append(args, drawn(chance, terms))
	}
	return pred + "(" + strings.Join(args, ", ") + ")"
}

const someTerms = "X X Y Y Z 1 a"

// drawnClause is a clause, that may not be sound.
func drawnClause(chance *rand.Rand) string {
	if chance.Intn(5) < 2 {
		return drawnAtom(chance, "1 2 a b ann") + "."
	}
	var body []string
	for range 1 + chance.Intn(4) {
		atom := drawnAtom(chance, someTerms)
		if chance.Intn(5) == 0 {
			atom = drawn(chance, "ann bob X Y W") + " says " + atom
		}
		switch chance.Intn(7) {
		case 0, 1:
			atom = "not " + atom
		case 2:
			atom = drawn(chance, someTerms) + drawn(chance, " < != ") + drawn(chance, someTerms)
		}
		body = append(body, atom)
	}
	return drawnAtom(chance, someTerms) + " :- " + strings.Join(body, ", ") + "."
}

// drawnWorld has a live list of sound clauses.
func drawnWorld(t *testing.T, chance *rand.Rand) world {
	w := world{c: given(t, api.MaxBound)}
	for many := 4 + chance.Intn(30); len(w.live) < many; {
		cl, _, errno := clause.Parse(drawnClause(chance))
		user := chance.Intn(6) / 5
		if errno != api.OK || sound.Check(w.c, user, cl) != api.OK {
			continue
		}
		r, _ := lower.Rule(w.c, user, cl)
		w.live = append(w.live, api.Said{User: user, No: len(w.live) + 1, Label: chance.Intn(8) / 2 % 4 * chance.Intn(2), Rule: r})
	}
	slices.SortStableFunc(w.live, func(a, b api.Said) int { return a.User - b.User })
	return w
}

// bent is a copy of a proof with one thing done to it.
func bent(chance *rand.Rand, w world, old []api.Node) []api.Node {
	l := slices.Clone(old)
	for i, n := range l {
		l[i].Kids, l[i].Nots = slices.Clone(n.Kids), slices.Clone(n.Nots)
		l[i].Tuple.Args = slices.Clone(n.Tuple.Args)
		for k, x := range n.Nots {
			l[i].Nots[k].Args = slices.Clone(x.Args)
		}
	}
	at := chance.Intn(len(l))
	n := &l[at]
	change := func(args []api.Value) {
		args[chance.Intn(len(args))] = []api.Value{{Num: 1}, {Num: 2}, {Sym: "a"}, {Sym: "ann"}, {Sym: "bob"}}[chance.Intn(5)]
	}
	switch chance.Intn(12) {
	case 0:
		one := w.live[chance.Intn(len(w.live))]
		n.User, n.No = one.User, one.No
	case 1:
		n.No += chance.Intn(3) - 1
	case 2:
		change(n.Tuple.Args)
	case 3:
		if len(n.Kids) > 0 {
			n.Kids[chance.Intn(len(n.Kids))] = chance.Intn(len(l)+2) - 1
		}
	case 4:
		if len(n.Kids) > 0 {
			n.Kids = slices.Delete(n.Kids, 0, 1)
		}
	case 5:
		n.Kids = append(n.Kids, chance.Intn(len(l)))
	case 6:
		if len(n.Nots) > 0 {
			change(n.Nots[chance.Intn(len(n.Nots))].Args)
		}
	case 7:
		if len(n.Nots) > 0 {
			n.Nots = slices.Insert(n.Nots, chance.Intn(len(n.Nots)), n.Nots[0])
		}
	case 8:
		if len(n.Nots) > 0 {
			n.Nots = n.Nots[1:]
		}
	case 9:
		l = slices.Delete(l, at, at+1)
	case 10:
		l = slices.Insert(l, at, old[chance.Intn(len(l))])
	case 11:
		other := chance.Intn(len(l))
		l[at], l[other] = l[other], l[at]
	}
	return l
}

// written: may all of some nodes be, that are drawn or bent?
func written(l []api.Node) bool {
	return !slices.ContainsFunc(l, func(n api.Node) bool {
		return slices.ContainsFunc(n.Nots, func(x api.Tuple) bool { return x.Args[0].Sym == "" }) || slices.Min(append(n.Kids, 0)) < 0 || len(n.Kids) > 6 || len(n.Nots) > 6 || n.Tuple.Args[0].Sym == "" || n.No < 1
	})
}

// proven holds nodes against the chapter's words, as they are and as a text.
func proven(t *testing.T, w world, label int, x api.Tuple, l []api.Node, want api.Errno) {
	t.Helper()
	if got := Accept(w.c, w.live, label, x, l); got != want {
		t.Fatalf("%v at %d by %v: %d, not %d; of %v", x, label, l, got, want, w.live)
	}
	text, errno := Print(l)
	if !written(l) {
		if text != "" || errno != api.ErrArg {
			t.Fatalf("%v: %q, %d", l, text, errno)
		}
		return
	}
	if again, at, is := Read(text); errno != api.OK || is != api.OK || at != 0 || !slices.EqualFunc(again, l, alike) {
		t.Fatalf("%v: %q, %d; %v, %d", l, text, errno, again, is)
	}
	if got := AcceptText(w.c, w.live, label, x, text); got != want {
		t.Fatalf("%v at %d by %q: %d, not %d", x, label, text, got, want)
	}
}

func alike(a, b api.Node) bool {
	tuples := func(a, b api.Tuple) bool { return value.Order(a, b) == 0 }
	return a.User == b.User && a.No == b.No && tuples(a.Tuple, b.Tuple) && slices.Equal(a.Kids, b.Kids) && slices.EqualFunc(a.Nots, b.Nots, tuples)
}

// among: is one of the tuples in a model?
func among(model []api.Found, l ...api.Tuple) bool {
	return slices.ContainsFunc(l, func(x api.Tuple) bool {
		_, ok := naive.Find(model, x)
		return ok
	})
}

// grown are nodes of which each holds, whatever their nots are.
func grown(chance *rand.Rand, w world, label int) []api.Node {
	var l []api.Node
	for range 200 {
		one := w.live[chance.Intn(len(w.live))]
		n := api.Node{User: one.User, No: one.No}
		var b []api.Bind
		ok := w.c.Up[one.Label]&(1<<label) != 0
		for _, f := range one.Rule.Body {
			if f.Kind == api.LPos && ok {
				at := chance.Intn(len(l) + 1)
				if ok = at < len(l); ok {
					n.Kids = append(n.Kids, at)
					b, ok = bind.Match(f, l[at].Tuple, b)
				}
			}
		}
		for _, f := range one.Rule.Body {
			if yes, compared := bind.Holds(f, b); compared && !yes {
				ok = false
			}
			if f.Kind == api.LNot && ok {
				x, _ := bind.Fill(f, b)
				n.Nots = append(n.Nots, x)
			}
		}
		n.Tuple, _ = bind.Fill(one.Rule.Head, b)
		if ok && value.Right(n.Tuple) {
			l = append(l, n)
		}
	}
	return l
}

// tally counts what was drawn.
type tally struct{ accepted, refused, without int }

// count holds nodes against the chapter's words and against the model.
func (n *tally) count(t *testing.T, w world, label int, model []api.Found, x api.Tuple, l []api.Node) {
	t.Helper()
	want := verdict(w, label, x, l)
	proven(t, w, label, x, l, want)
	switch {
	case want != api.OK:
		n.refused++
	case among(model, Leaves(l)...):
		n.without++
	case !among(model, x):
		t.Fatalf("%v at %d by %v: it is not so; of %v", x, label, l, w.live)
	default:
		n.accepted++
	}
}

func TestManyProofs(t *testing.T) { // P16.1, P16.2, P16.3: proofs are accepted; whatever else is accepted, is so, if what must not be is not
	chance := rand.New(rand.NewSource(16))
	var n tally
	proofs := 0
	for range 250 {
		w, label := drawnWorld(t, chance), chance.Intn(4)
		model, _, _ := naive.Model(w.c, w.live, label)
		for _, f := range model {
			l, errno := prove.Prove(w.c, w.live, label, f.Tuple)
			if errno != api.OK || among(model, Leaves(l)...) {
				t.Fatalf("%v: %d, %v", f.Tuple, errno, l)
			}
			proven(t, w, label, f.Tuple, l, api.OK)
			proofs++
			for range 12 {
				other := bent(chance, w, l)
				x := f.Tuple
				if len(other) > 0 && chance.Intn(4) > 0 {
					x = other[len(other)-1].Tuple
				}
				if value.Right(x) {
					n.count(t, w, label, model, x, other)
				}
			}
		}
		l := grown(chance, w, label)
		for i := range l {
			if chance.Intn(8) == 0 {
				n.count(t, w, label, model, l[i].Tuple, l[:i+1])
			}
		}
	}
	if proofs < 1500 || n.accepted < 1500 || n.refused < 5000 || n.without < 50 {
		t.Errorf("too plain: %d proofs, %v", proofs, n)
	}
}
