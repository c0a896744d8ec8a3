package prove

import (
	"slices"
	"strings"

	"mandate/api"
	"mandate/bind"
	"mandate/poset"
	"mandate/value"
)

// way is an assertion, and an instance of its rule that makes an atom.
type way struct {
	user, no int
	goal     api.Found
	kids     []api.Found
	nots     []api.Tuple
}

// atom is a tuple of a model as a map's key. A predicate has one arity in a configuration, so nothing tells how many arguments there are.
type atom struct {
	pred string
	args [api.MaxArity + 1]api.Value
}

func key(t api.Tuple) atom {
	k := atom{pred: t.Pred}
	copy(k.args[:], t.Args)
	return k
}

// place is where an atom stands: at its predicate (at is anywhere then), and at each of its arguments.
type place struct {
	pred string
	at   int
	val  api.Value
}

const anywhere = -1

// search is what ways to the atoms of a model are looked for in. Its lists are in order, so that what is found first comes first.
type search struct {
	heard  []api.Said
	found  map[atom]api.Found
	places map[place][]api.Found
}

func newSearch(c api.Config, live []api.Said, label int, model []api.Found) *search {
	s := &search{found: map[atom]api.Found{}, places: map[place][]api.Found{}}
	below := poset.Below(c.Up, label)
	for _, said := range live {
		if below>>said.Label&1 == 1 {
			s.heard = append(s.heard, said)
		}
	}
	for _, f := range model {
		s.found[key(f.Tuple)] = f
		s.put(place{pred: f.Tuple.Pred, at: anywhere}, f)
		for i, v := range f.Tuple.Args {
			s.put(place{f.Tuple.Pred, i, v}, f)
		}
	}
	return s
}

func (s *search) put(p place, f api.Found) {
	s.places[p] = append(s.places[p], f)
}

// first is the first way to an atom. There is one: else the atom would not have been found.
func (s *search) first(goal api.Found) way {
	var first way
	s.ways(goal, func(w way) bool {
		first = w
		return false
	})
	return first
}

// ways tells the ways to an atom, the first one first, as long as the listener asks for more.
func (s *search) ways(goal api.Found, tell func(way) bool) {
	for _, said := range s.heard {
		b, ok := bind.Match(said.Rule.Head, goal.Tuple, nil)
		if !ok {
			continue
		}
		w := walk{search: s, said: said, goal: goal, tell: tell, lost: map[rest]struct{}{}}
		open := uint64(1)<<len(said.Rule.Body) - 1
		if w.can(open, b) && !w.from(0, open, b, nil) {
			return
		}
	}
}

// walk goes through the body of an assertion's rule, its head being an atom.
type walk struct {
	*search
	said api.Said
	goal api.Found
	tell func(way) bool
	lost map[rest]struct{} // what is known to lead nowhere
}

// rest is what is left to look for: literals, and the values that their variables have.
type rest struct {
	open   uint64
	values string
}

// from tells the ways that go on from a literal with these values; false: no more is asked for. As kids are held against one another one by one, the body is gone through as it stands.
func (w *walk) from(at int, open uint64, b []api.Bind, kids []api.Found) bool {
	body := w.said.Rule.Body
	for at < len(body) && body[at].Kind != api.LPos {
		at++
	}
	if at == len(body) {
		return w.tell(w.made(b, kids))
	}
	open &^= 1 << at
	for _, f := range w.near(body[at], b) {
		bound, ok := w.match(body[at], f, b)
		// Without the second question the first kids could be gone through with all of the later ones in vain.
		if !ok || !w.can(open, bound) {
			continue
		}
		if !w.from(at+1, open, bound, append(slices.Clip(kids), f)) {
			return false
		}
	}
	return true
}

// made is the way of an instance.
func (w *walk) made(b []api.Bind, kids []api.Found) way {
	made := way{user: w.said.User, no: w.said.No, goal: w.goal, kids: kids}
	for _, f := range w.said.Rule.Body {
		if f.Kind == api.LNot {
			t, _ := bind.Fill(f, b)
			made.nots = append(made.nots, t)
		}
	}
	return made
}

// can: are there values with which all open literals are so? It asks in whichever order there is least to go through.
func (w *walk) can(open uint64, b []api.Bind) bool {
	open, ok := w.settled(open, b)
	if !ok || open == 0 {
		return ok
	}
	left := w.rest(open, b)
	if _, ok := w.lost[left]; ok {
		return false
	}
	at, near := w.nearest(open, b)
	for _, f := range near {
		if bound, ok := w.match(w.said.Rule.Body[at], f, b); ok && w.can(open&^(1<<at), bound) {
			return true
		}
	}
	w.lost[left] = struct{}{}
	return false
}

// settled takes the literals whose variables all have values from the open ones; false: one of them is not so.
func (w *walk) settled(open uint64, b []api.Bind) (uint64, bool) {
	for at := range poset.Bits(open) {
		yes, known := w.holds(w.said.Rule.Body[at], b)
		if !known {
			continue
		}
		if !yes {
			return 0, false
		}
		open &^= 1 << at
	}
	return open, true
}

// holds: is a literal so? And have all its variables values, so that it is known?
func (w *walk) holds(f api.Flat, b []api.Bind) (bool, bool) {
	if f.Kind == api.LLess || f.Kind == api.LUnlike {
		return bind.Holds(f, b)
	}
	t, known := bind.Fill(f, b)
	if !known {
		return false, false
	}
	one, found := w.found[key(t)]
	if f.Kind == api.LNot {
		return !found, true
	}
	return found && w.earlier(one), true
}

// earlier: was an atom found in an earlier round than the head, or in a stratum below?
func (w *walk) earlier(f api.Found) bool {
	return f.Stratum < w.goal.Stratum || f.Stratum == w.goal.Stratum && f.Round < w.goal.Round
}

// match holds a literal against an atom that may be a kid.
func (w *walk) match(f api.Flat, one api.Found, b []api.Bind) ([]api.Bind, bool) {
	if !w.earlier(one) {
		return nil, false
	}
	return bind.Match(f, one.Tuple, b)
}

// nearest tells which of the open literals has the fewest atoms near it, and they. One that must be so is open: such literals bind all variables.
func (w *walk) nearest(open uint64, b []api.Bind) (int, []api.Found) {
	least := -1
	var fewest []api.Found
	for at := range poset.Bits(open) {
		f := w.said.Rule.Body[at]
		if f.Kind != api.LPos {
			continue
		}
		if l := w.near(f, b); least < 0 || len(l) < len(fewest) {
			least, fewest = at, l
		}
	}
	return least, fewest
}

// near tells atoms among which are all that a literal matches: the shortest list of a place where it looks.
func (s *search) near(f api.Flat, b []api.Bind) []api.Found {
	least := s.places[place{pred: f.Pred, at: anywhere}]
	for i, x := range f.Args {
		if v, ok := valueOf(x, b); ok {
			if l := s.places[place{f.Pred, i, v}]; len(l) < len(least) {
				least = l
			}
		}
	}
	return least
}

// valueOf tells a term's value, if it has one.
func valueOf(x api.Term, b []api.Bind) (api.Value, bool) {
	if x.Var == "" {
		return x.Val, true
	}
	at := slices.IndexFunc(b, func(one api.Bind) bool { return one.Var == x.Var })
	if at < 0 {
		return api.Value{}, false
	}
	return b[at].Val, true
}

// rest spells the values that the variables of open literals have, in an order that does not hang on the way there.
func (w *walk) rest(open uint64, b []api.Bind) rest {
	var values strings.Builder
	for at := range poset.Bits(open) {
		for _, x := range w.said.Rule.Body[at].Args {
			if v, ok := valueOf(x, b); ok && x.Var != "" {
				text, _ := value.Text(v)
				values.WriteString(text)
			}
			values.WriteByte(',')
		}
	}
	return rest{open, values.String()}
}
