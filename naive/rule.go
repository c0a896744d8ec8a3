package naive

import (
	"slices"
	"strings"

	"mandate/api"
	"mandate/bind"
	"mandate/value"
)

// rule is a rule whose literals stand where they can be asked first.
type rule struct {
	head  api.Flat
	ahead []api.Flat // what has no variables
	steps []step
}

// step is a literal that must be so, and what can be asked as soon as its variables have values.
type step struct {
	lit   api.Flat
	tests []api.Flat
	later []string // the variables that are asked for behind it
}

// prepared puts the literals of a rule where they can be asked first. Each has its place: a rule that may be binds all its variables.
func prepared(r api.Rule) rule {
	var lits, open []api.Flat
	for _, f := range r.Body {
		if f.Kind == api.LPos {
			lits = append(lits, f)
		} else {
			open = append(open, f)
		}
	}
	made := rule{head: r.Head}
	made.ahead, open = ready(open, nil)
	for i, f := range lits {
		s := step{lit: f}
		s.tests, open = ready(open, variables(lits[:i+1]))
		s.later = variables(slices.Concat([]api.Flat{r.Head}, lits[i+1:], open))
		made.steps = append(made.steps, s)
	}
	return made
}

// ready parts literals all whose variables are bound from the others.
func ready(open []api.Flat, bound []string) (now, still []api.Flat) {
	for _, f := range open {
		unbound := func(name string) bool { return !slices.Contains(bound, name) }
		if slices.ContainsFunc(variables([]api.Flat{f}), unbound) {
			still = append(still, f)
		} else {
			now = append(now, f)
		}
	}
	return now, still
}

// variables tells the variables of literals.
func variables(l []api.Flat) []string {
	var names []string
	for _, f := range l {
		for _, x := range f.Args {
			if x.Var != "" {
				names = append(names, x.Var)
			}
		}
	}
	return names
}

// walk is a way through a rule's steps, and what it has come by.
type walk struct {
	m    *model
	r    rule
	tell func(api.Tuple) bool
	been map[stop]struct{}
}

// stop is a step that is done, and what it leaves to the later ones.
type stop struct {
	at     int
	values string
}

// heads tells the heads of a rule's instances, as long as the listener asks for more.
func (m *model) heads(r rule, tell func(api.Tuple) bool) {
	for _, f := range r.ahead {
		if !m.holds(f, nil) {
			return
		}
	}
	w := walk{m, r, tell, map[stop]struct{}{}}
	w.from(0, nil)
}

// from goes through the steps from one on, with the values that those ahead of it left; false: no more is asked for.
func (w *walk) from(at int, b []api.Bind) bool {
	if at == len(w.r.steps) {
		head, _ := bind.Fill(w.r.head, b)
		return w.tell(head)
	}
	s := w.r.steps[at]
next:
	for _, t := range w.m.near(s.lit, b) {
		bound, ok := bind.Match(s.lit, t, b)
		if !ok {
			continue
		}
		for _, f := range s.tests {
			if !w.m.holds(f, bound) {
				continue next
			}
		}
		left := kept(bound, s.later)
		// Where a value is dropped, two ways may leave the same: the second one leads to no other head.
		if len(left) < len(bound) && w.again(at, left) {
			continue
		}
		if !w.from(at+1, left) {
			return false
		}
	}
	return true
}

// holds: is a literal that is no LPos so, with the values that its variables have?
func (m *model) holds(f api.Flat, b []api.Bind) bool {
	if f.Kind == api.LNot {
		t, _ := bind.Fill(f, b)
		_, found := m.found[key(t)]
		return !found
	}
	yes, _ := bind.Holds(f, b)
	return yes
}

// kept tells the bindings of some variables.
func kept(b []api.Bind, names []string) []api.Bind {
	var left []api.Bind
	for _, one := range b {
		if slices.Contains(names, one.Var) {
			left = append(left, one)
		}
	}
	return left
}

// again: has a step left these values already?
func (w *walk) again(at int, left []api.Bind) bool {
	var values strings.Builder
	for _, one := range left {
		text, _ := value.Text(one.Val)
		values.WriteString(text + ",")
	}
	here := stop{at, values.String()}
	_, been := w.been[here]
	w.been[here] = struct{}{}
	return been
}
