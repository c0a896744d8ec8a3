package delta

import (
	"math/rand"
	"slices"
	"strconv"
	"strings"
	"testing"

	"mandate/api"
	"mandate/bind"
	"mandate/clause"
	"mandate/lower"
	"mandate/naive"
	"mandate/sound"
	"mandate/value"
)

// drawn is a term or a speaker: one of some words.
func drawn(chance *rand.Rand, words string) string {
	l := strings.Fields(words)
	return l[chance.Intn(len(l))]
}

// drawnAtom is an atom of one of some predicates, each with its arity behind it.
func drawnAtom(chance *rand.Rand, preds, terms string) string {
	pred, arity, _ := strings.Cut(drawn(chance, preds), "/")
	n, _ := strconv.Atoi(arity)
	if n == 0 {
		return pred
	}
	var args []string
	for range n {
		args = append(args, drawn(chance, terms))
	}
	return pred + "(" + strings.Join(args, ", ") + ")"
}

const (
	somePreds  = "p/1 p/1 q/2 q/2 bad/1 ok/1 r/2 none/0 last/1"
	someValues = "1 2 a b ann"
	someTerms  = "X X Y Y Z Z 1 a"
)

// drawnClause is a clause, that may not be sound.
func drawnClause(chance *rand.Rand) string {
	if chance.Intn(5) == 0 {
		return drawnAtom(chance, somePreds, someValues) + "."
	}
	var body []string
	for range 1 + chance.Intn(5) {
		said := drawnAtom(chance, somePreds, someTerms)
		if chance.Intn(4) == 0 {
			said = drawn(chance, "ann bob X Y") + " says " + said
		}
		switch chance.Intn(7) {
		case 0:
			said = "not " + said
		case 2:
			said = drawn(chance, someTerms) + drawn(chance, " < != ") + drawn(chance, someTerms)
		}
		body = append(body, said)
	}
	return drawnAtom(chance, somePreds, someTerms) + " :- " + strings.Join(body, ", ") + "."
}

// drawnLive is a live list of sound clauses.
func drawnLive(chance *rand.Rand, c api.Config, many int) []api.Said {
	var l []api.Said
	for len(l) < many {
		cl, _, errno := clause.Parse(drawnClause(chance))
		user := chance.Intn(6) / 5
		if errno != api.OK || sound.Check(c, user, cl) != api.OK {
			continue
		}
		r, _ := lower.Rule(c, user, cl)
		label := low
		if chance.Intn(2) == 0 {
			label = chance.Intn(len(c.Labels))
		}
		l = append(l, api.Said{User: user, No: len(l) + 1, Label: label, Rule: r})
	}
	slices.SortStableFunc(l, func(a, b api.Said) int { return a.User - b.User })
	return l
}

// agrees looks that a base is what layer 11 finds label by label, and tells how many labels are over.
func agrees(t *testing.T, c api.Config, live []api.Said) int {
	t.Helper()
	b, errno := Run(c, live)
	if errno != api.OK {
		t.Fatalf("Run: %d", errno)
	}
	var overs uint64
	masks := map[string]uint64{}
	for label := range c.Labels {
		want, isOver, _ := naive.Model(c, live, label)
		l, over, errno := b.Model(label)
		if got := told(t, l); !slices.Equal(got, told(t, want)) || over != isOver || errno != api.OK {
			t.Fatalf("at %d: %v, %d:\n%s\nnot\n%s\nof %v", label, over, errno, strings.Join(got, "\n"), strings.Join(told(t, want), "\n"), live)
		}
		if over {
			overs |= 1 << label
		}
		for _, f := range want {
			text, _ := lower.Text(f.Tuple)
			masks[text] |= 1 << label
		}
	}
	if b.Over() != overs || b.Len() != len(masks) {
		t.Fatalf("over %x, not %x; %d, not %d", b.Over(), overs, b.Len(), len(masks))
	}
	for text, mask := range masks {
		x, _ := lower.Read(text)
		if got := b.Mask(x); got != mask {
			t.Fatalf("%s: %x, not %x", text, got, mask)
		}
	}
	return len(slices.Collect(bitsOf(overs)))
}

// bitsOf goes through the bits of a mask, in a way of its own.
func bitsOf(mask uint64) func(func(int) bool) {
	return func(yield func(int) bool) {
		for bit := range 64 {
			if mask&(1<<bit) != 0 && !yield(bit) {
				return
			}
		}
	}
}

func TestManyBases(t *testing.T) { // P14.1, P14.2
	chance := rand.New(rand.NewSource(14))
	some, all := 0, 0
	for range 1200 {
		live := drawnLive(chance, given(t, 1), 4+chance.Intn(40))
		agrees(t, given(t, api.MaxBound), live)
		// Of just as many as the bound, and one fewer, at one of the labels: some of the others are over too, and some are not.
		l, _, _ := naive.Model(given(t, api.MaxBound), live, chance.Intn(4))
		if len(l) > 1 {
			agrees(t, given(t, len(l)), live)
			switch n := agrees(t, given(t, len(l)-1), live); n {
			case 4:
				all++
			case 1, 2, 3:
				some++
			}
		}
	}
	if some < 150 || all < 150 {
		t.Errorf("too plain: %d with some over, %d with all", some, all)
	}
}

func TestManySelects(t *testing.T) { // P14.2
	chance := rand.New(rand.NewSource(142))
	found := 0
	for range 300 {
		c := given(t, 30)
		live := drawnLive(chance, c, 30)
		b, _ := Run(c, live)
		for label := range c.Labels {
			l, over, _ := naive.Model(c, live, label)
			for range 10 {
				f := drawnFlat(chance)
				want := bind.Select(f, naive.Tuples(l))
				got, isOver, errno := b.Select(label, f)
				if !slices.EqualFunc(got, want, func(a, b api.Tuple) bool { return value.Order(a, b) == 0 }) || isOver != over || errno != api.OK {
					t.Fatalf("%v at %d: %v, not %v, %v, %d", f, label, got, want, isOver, errno)
				}
				if len(got) > 1 {
					found++
				}
			}
		}
	}
	if found < 500 {
		t.Errorf("too plain: %d", found)
	}
}

// drawnFlat is a flat literal, that may fit no predicate.
func drawnFlat(chance *rand.Rand) api.Flat {
	pred, arity, _ := strings.Cut(drawn(chance, somePreds+" x/1"), "/")
	n, _ := strconv.Atoi(arity)
	if chance.Intn(9) == 0 {
		n = chance.Intn(6)
	}
	f := api.Flat{Kind: api.LPos, Pred: pred}
	if chance.Intn(5) == 0 {
		f.Kind = uint8(chance.Intn(6))
	}
	for _, words := range append([]string{"ann ann bob X W"}, slices.Repeat([]string{someTerms}, n)...) {
		s := drawn(chance, words)
		if v, ok := value.Read(s); ok {
			f.Args = append(f.Args, api.Term{Val: v})
		} else {
			f.Args = append(f.Args, api.Term{Var: s})
		}
	}
	return f
}
