package delta

import (
	"slices"
	"strconv"
	"strings"

	"mandate/api"
	"mandate/bind"
	"mandate/poset"
	"mandate/relate"
)

// search is a base that grows, round by round.
type search struct {
	*Base
	bound int
	heads *relate.Table          // what the round that is under way finds; the base has it from the next one on
	many  map[place]int          // how many tuples stand at a place
	told  map[place][]relate.Row // they, where they were asked for and are still the same
}

// place is where a tuple stands: at its predicate (at is anywhere then), and at each of its arguments.
type place struct {
	pred string
	at   int
	val  api.Value
}

const anywhere = -1

// build finds all models, stratum by stratum. A round is one of all labels: where nothing is new at a label, later ones find nothing there either.
func (s *search) build(strata [api.MaxStrata][]rule) {
	var news map[string][]relate.Row
	at, round := 0, 0
stratum:
	if at == len(strata) {
		return
	}
	round = 0
	s.begin(strata[at])
next:
	round++
	news = s.settle(at, round)
	if len(news) == 0 {
		at++
		goto stratum
	}
	s.goOn(strata[at], news)
	goto next
}

// begin finds what rules make of all that was found.
func (s *search) begin(rules []rule) {
	for _, r := range rules {
		w := walk{search: s, head: r.head, way: r.whole, been: map[stop]uint64{}}
		w.from(0, nil, r.heard)
	}
}

// goOn finds what rules make of what is new and all that was found.
func (s *search) goOn(rules []rule, news map[string][]relate.Row) {
	for _, r := range rules {
		for _, way := range r.fresh {
			w := walk{search: s, head: r.head, way: way, been: map[stop]uint64{}}
			w.through(news[way[0].lit.Pred], 0, nil, r.heard)
		}
	}
}

// settle puts what a round found where the next one finds it, and tells of each predicate what is new.
func (s *search) settle(stratum, round int) map[string][]relate.Row {
	for t, mask := range s.heads.All() {
		s.Add(t, mask&^s.over)
	}
	s.heads = relate.New()
	news := map[string][]relate.Row{}
	for _, row := range s.Fresh() {
		k, pred := key(row.Tuple), row.Tuple.Pred
		s.changed(row.Tuple, len(s.gains[k]) == 0)
		s.gains[k] = append(s.gains[k], gain{row.Mask, stratum, round})
		news[pred] = append(news[pred], row)
	}
	return news
}

// changed counts a tuple that was not there at its places, and lets go of what was told of them.
func (s *search) changed(t api.Tuple, added bool) {
	places := []place{{pred: t.Pred, at: anywhere}}
	for i, v := range t.Args {
		places = append(places, place{t.Pred, i, v})
	}
	for _, p := range places {
		delete(s.told, p)
		if added {
			s.many[p]++
		}
	}
}

// near tells tuples among which are all that a literal matches: those of the place of the fewest where it looks.
func (s *search) near(f api.Flat, b []api.Bind) []relate.Row {
	least := place{pred: f.Pred, at: anywhere}
	for i, x := range f.Args {
		if v, ok := valueOf(x, b); ok {
			if here := (place{f.Pred, i, v}); s.many[here] < s.many[least] {
				least = here
			}
		}
	}
	rows, ok := s.told[least]
	if !ok {
		rows = s.Where(least.pred, least.at, least.val)
		s.told[least] = rows
	}
	return rows
}

// valueOf tells a term's value, if it has one.
func valueOf(x api.Term, b []api.Bind) (api.Value, bool) {
	if x.Var == "" {
		return x.Val, true
	}
	at := slices.IndexFunc(b, func(one api.Bind) bool { return one.Var == x.Var })
	if at < 0 {
		return api.Value{}, false
	}
	return b[at].Val, true
}

// holds tells at which labels of a mask a literal is so whose variables all have values.
func (s *search) holds(f api.Flat, b []api.Bind, mask uint64) uint64 {
	if t, ok := bind.Fill(f, b); ok && f.Kind == api.LNot {
		return mask &^ s.Mask(t)
	} else if ok {
		return mask & s.Mask(t)
	}
	if yes, _ := bind.Holds(f, b); yes {
		return mask
	}
	return 0
}

// find takes a head down. A label whose atoms are more than the bound is lost at once, so that nothing is looked for there any more.
func (s *search) find(t api.Tuple, mask uint64) {
	for label := range poset.Bits(s.heads.Add(t, mask&^s.Mask(t))) {
		if s.Count(label)+s.heads.Count(label) > s.bound {
			s.over |= 1 << label
		}
	}
}

// walk goes a way through a rule's body.
type walk struct {
	*search
	head api.Flat
	way  []step
	been map[stop]uint64
}

// stop is a step that is done, and what it leaves to the later ones.
type stop struct {
	at     int
	values string
}

// from goes on at a step, with the values and the labels that those ahead of it left, and tells at which labels it came to a head.
func (w *walk) from(at int, b []api.Bind, mask uint64) uint64 {
	mask &^= w.over
	if mask == 0 {
		return 0
	}
	if at == len(w.way) {
		head, _ := bind.Fill(w.head, b)
		w.find(head, mask)
		return mask
	}
	s := w.way[at]
	if s.ready {
		return w.behind(at, b, w.holds(s.lit, b, mask))
	}
	if s.headed {
		mask = w.lacks(b, mask)
	}
	return w.through(w.near(s.lit, b), at, b, mask)
}

// lacks tells at which labels of a mask the head is not found yet, so that it is worth to go on.
func (w *walk) lacks(b []api.Bind, mask uint64) uint64 {
	head, _ := bind.Fill(w.head, b)
	return mask &^ w.Mask(head) &^ w.heads.Mask(head)
}

// through holds a step's literal against rows.
func (w *walk) through(rows []relate.Row, at int, b []api.Bind, mask uint64) uint64 {
	var came uint64
	s := w.way[at]
	for _, row := range rows {
		both := mask & row.Mask
		if s.headed {
			// All rows lead to one head: at a label it is enough to come to it once.
			both &^= came
		}
		if both == 0 {
			continue
		}
		if bound, ok := bind.Match(s.lit, row.Tuple, b); ok {
			came |= w.behind(at, bound, both)
		}
	}
	return came
}

// behind goes on behind a step that is done.
func (w *walk) behind(at int, b []api.Bind, mask uint64) uint64 {
	if s := w.way[at]; s.drops && mask != 0 {
		b = kept(b, s.later)
		// Where a value is dropped, two ways may leave the same: at labels at which one has been here the other one leads to no other head.
		here := stop{at, spelt(b)}
		mask &^= w.been[here]
		w.been[here] |= mask
	}
	return w.from(at+1, b, mask)
}

// kept tells the bindings of some variables.
func kept(b []api.Bind, names []string) []api.Bind {
	var left []api.Bind
	for _, one := range b {
		if slices.Contains(names, one.Var) {
			left = append(left, one)
		}
	}
	return left
}

// spelt is the values of variables as a text.
func spelt(b []api.Bind) string {
	var text strings.Builder
	for _, one := range b {
		text.WriteString(one.Val.Sym)
		if one.Val.Sym == "" {
			text.WriteString(strconv.FormatInt(one.Val.Num, 10))
		}
		text.WriteString(",")
	}
	return text.String()
}
