// Package intern is layer 2: values by numbers, in the order in which they came first.
package intern

import (
	"mandate/api"
	"mandate/value"
)

// Pool is values by numbers.
type Pool struct {
	numbers map[api.Value]int
	values  []api.Value // by number
}

// New is an empty pool.
func New() *Pool {
	return &Pool{numbers: map[api.Value]int{}}
}

// Put gives a value a number.
func (p *Pool) Put(v api.Value) (int, api.Errno) {
	if !value.Good(v) {
		return 0, api.ErrArg
	}
	if n, ok := p.Find(v); ok {
		return n, api.OK
	}
	if p.room() == 0 {
		return 0, api.ErrFull
	}
	return p.add(v), api.OK
}

// add gives a value that has no number the next one.
func (p *Pool) add(v api.Value) int {
	n := len(p.values)
	p.numbers[v] = n
	p.values = append(p.values, v)
	return n
}

// room tells how many values more may be put: none in a pool that isn't there.
func (p *Pool) room() int {
	if p == nil {
		return 0
	}
	return api.MaxPool - len(p.values)
}

// Find tells a value's number.
func (p *Pool) Find(v api.Value) (int, bool) {
	if p == nil {
		return 0, false
	}
	n, ok := p.numbers[v]
	return n, ok
}

// Get tells a number's value.
func (p *Pool) Get(n int) (api.Value, bool) {
	if n < 0 || n >= p.Len() {
		return api.Value{}, false
	}
	return p.values[n], true
}

// Row puts values.
func (p *Pool) Row(l []api.Value) ([]int, api.Errno) {
	for _, v := range l {
		if !value.Good(v) {
			return nil, api.ErrArg
		}
	}
	// Room is looked for ahead of the first Put, so that none has to be taken back.
	if p.unknown(l) > p.room() {
		return nil, api.ErrFull
	}
	row := make([]int, len(l))
	for i, v := range l {
		row[i], _ = p.Put(v)
	}
	return row, api.OK
}

// unknown tells how many values of a list, each counted once, have no number.
func (p *Pool) unknown(l []api.Value) int {
	seen := map[api.Value]struct{}{}
	for _, v := range l {
		if _, ok := p.Find(v); !ok {
			seen[v] = struct{}{}
		}
	}
	return len(seen)
}

// Values tells numbers' values.
func (p *Pool) Values(l []int) ([]api.Value, bool) {
	values := make([]api.Value, len(l))
	for i, n := range l {
		v, ok := p.Get(n)
		if !ok {
			return nil, false
		}
		values[i] = v
	}
	return values, true
}

// Len tells how many there are.
func (p *Pool) Len() int {
	if p == nil {
		return 0
	}
	return len(p.values)
}

// Clear empties it.
func (p *Pool) Clear() {
	if p == nil {
		return
	}
	clear(p.numbers)
	p.values = nil
}
