package delta

import (
	"slices"

	"mandate/api"
	"mandate/config"
	"mandate/plan"
)

// rule is an assertion's rule, and the ways to go through its body.
type rule struct {
	head  api.Flat
	heard uint64   // the labels at which it is heard
	whole []step   // the way by what was found so far
	fresh [][]step // the ways by what is new: for each literal that something new may match, the one that begins with it
}

// step is a literal of a way.
type step struct {
	lit    api.Flat
	ready  bool     // the literals ahead bind all its variables
	headed bool     // they bind all the head's variables
	drops  bool     // a variable that has a value here is not asked for any more
	later  []string // the variables that are asked for behind it
}

// prepared tells of each stratum the rules for it.
func prepared(c api.Config, live []api.Said) [api.MaxStrata][]rule {
	var strata [api.MaxStrata][]rule
	for _, s := range live {
		pred, _ := config.Pred(c, s.Rule.Head.Pred)
		at := c.Preds[pred].Stratum
		strata[at] = append(strata[at], waysOf(s.Rule, c.Up[s.Label]))
	}
	return strata
}

// waysOf finds the ways through a rule's body. There are some: in a rule that may be literals that are so bind all variables.
func waysOf(r api.Rule, heard uint64) rule {
	made := rule{head: r.Head, heard: heard}
	order, _ := plan.Order(r)
	made.whole = steps(r, order)
	for k := range r.Body {
		if order, ok := plan.From(r, k); ok {
			made.fresh = append(made.fresh, steps(r, order))
		}
	}
	return made
}

// steps makes a plan a way.
func steps(r api.Rule, order []int) []step {
	var way []step
	var kept []string
	for i, k := range order {
		s := step{lit: r.Body[k], later: plan.Vars(r.Head)}
		for _, behind := range order[i+1:] {
			s.later = append(s.later, plan.Vars(r.Body[behind])...)
		}
		bound := plan.Bound(r, order[:i])
		s.ready = within(plan.Vars(s.lit), bound)
		s.headed = within(plan.Vars(r.Head), bound)
		has := slices.Concat(kept, plan.Vars(s.lit))
		s.drops = !within(has, s.later)
		kept = slices.DeleteFunc(has, func(name string) bool { return !slices.Contains(s.later, name) })
		way = append(way, s)
	}
	return way
}

// within: are all names of one list in another one?
func within(names, others []string) bool {
	for _, name := range names {
		if !slices.Contains(others, name) {
			return false
		}
	}
	return true
}
