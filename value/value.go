// Package value is layer 1: constants, their order and their texts, and the order of tuples.
package value

import (
	"slices"
	"sort"
	"strconv"

	"mandate/api"
)

// Name: is a text a name?
func Name(s string) bool {
	if s == "" || len(s) > api.MaxName || word(s) || !letter(s[0]) {
		return false
	}
	for i := range len(s) {
		if c := s[i]; !letter(c) && !digit(c) && c != '_' {
			return false
		}
	}
	return true
}

// word: is a text kept back for the grammar, so that it can't be a name?
func word(s string) bool {
	return s == "not" || s == "says"
}

func letter(c byte) bool {
	return 'a' <= c && c <= 'z'
}

func digit(c byte) bool {
	return '0' <= c && c <= '9'
}

// Good: may a value be?
func Good(v api.Value) bool {
	return v.Sym == "" || v.Num == 0 && Name(v.Sym)
}

// Right: may a tuple be?
func Right(t api.Tuple) bool {
	// One argument more than a predicate has: the speaker, who is a symbol.
	if n := len(t.Args); n < 1 || n > api.MaxArity+1 || t.Args[0].Sym == "" || !Name(t.Pred) {
		return false
	}
	for _, v := range t.Args {
		if !Good(v) {
			return false
		}
	}
	return true
}

// against holds two numbers, or two texts byte by byte, against one another.
func against[T int | int64 | string](a, b T) int {
	switch {
	case a < b:
		return -1
	case a > b:
		return 1
	}
	return 0
}

// Compare holds two values against one another.
func Compare(a, b api.Value) int {
	// The empty text stands ahead of every other one, and so do numbers ahead of symbols.
	if n := against(a.Sym, b.Sym); n != 0 {
		return n
	}
	return against(a.Num, b.Num)
}

// Order holds two tuples against one another.
func Order(a, b api.Tuple) int {
	if n := against(a.Pred, b.Pred); n != 0 {
		return n
	}
	if n := against(len(a.Args), len(b.Args)); n != 0 {
		return n
	}
	return slices.CompareFunc(a.Args, b.Args, Compare)
}

// tuples is a list that can be sorted.
type tuples []api.Tuple

// ahead: does the tuple at i stand ahead of the one at j?
func (l tuples) ahead(i, j int) bool {
	return Order(l[i], l[j]) < 0
}

// Sort tells the tuples in order, each once.
func Sort(l []api.Tuple) []api.Tuple {
	sorted := slices.Clone(tuples(l))
	sort.Slice(sorted, sorted.ahead)
	var once []api.Tuple
	for i, t := range sorted {
		if i == 0 || Order(sorted[i-1], t) != 0 {
			once = append(once, fresh(t))
		}
	}
	return once
}

// fresh is a tuple whose arguments nobody else holds.
func fresh(t api.Tuple) api.Tuple {
	return api.Tuple{Pred: t.Pred, Args: append([]api.Value(nil), t.Args...)}
}

// Text writes a value.
func Text(v api.Value) (string, bool) {
	switch {
	case !Good(v):
		return "", false
	case v.Sym != "":
		return v.Sym, true
	}
	return strconv.FormatInt(v.Num, 10), true
}

// Read reads a value.
func Read(s string) (api.Value, bool) {
	if Name(s) {
		return api.Value{Sym: s}, true
	}
	n, err := strconv.ParseInt(s, 10, 64)
	// Of the texts that strconv takes for one number, only one is its text.
	if err != nil || strconv.FormatInt(n, 10) != s {
		return api.Value{}, false
	}
	return api.Value{Num: n}, true
}
