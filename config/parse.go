package config

import (
	"strings"

	"mandate/api"
	"mandate/poset"
	"mandate/value"
)

// reader is the Config of the lines that were read, and what it can't hold of them.
type reader struct {
	api.Config
	pairs    [][2]int // of labels: the second one is at or above the first one
	hasPurse bool     // a purse of noughts is one, too: the Config does not tell that it was read
}

// Parse reads a configuration.
func Parse(text string) (api.Config, int, api.Errno) {
	if len(text) > api.MaxConfig {
		return api.Config{}, 0, api.ErrLong
	}
	r := &reader{}
	read := readers()
	for i, line := range strings.Split(text, "\n") {
		words := strings.FieldsFunc(line, blank)
		if len(words) == 0 || words[0][0] == '#' {
			continue
		}
		one, ok := read[words[0]]
		if !ok {
			return api.Config{}, i + 1, api.ErrLine
		}
		if errno := one(r, words[1:]); errno != api.OK {
			return api.Config{}, i + 1, errno
		}
	}
	if errno := r.end(); errno != api.OK {
		return api.Config{}, 0, errno
	}
	return r.Config, 0, api.OK
}

// readers tells what reads a line, by its first word; it is handed the others.
func readers() map[string]func(*reader, []string) api.Errno {
	return map[string]func(*reader, []string) api.Errno{
		"label": (*reader).label,
		"above": (*reader).above,
		"user":  (*reader).user,
		"pred":  (*reader).pred,
		"bound": (*reader).bound,
		"purse": (*reader).purse,
	}
}

func blank(c rune) bool {
	return c == ' ' || c == '\t'
}

// label NAME
func (r *reader) label(words []string) api.Errno {
	if !names(words, 1) {
		return api.ErrLine
	}
	if _, known := Label(r.Config, words[0]); known {
		return api.ErrName
	}
	if len(r.Labels) == api.MaxLabels {
		return api.ErrFull
	}
	r.Labels = append(r.Labels, words[0])
	return api.OK
}

// above NAME NAME
func (r *reader) above(words []string) api.Errno {
	if !names(words, 2) {
		return api.ErrLine
	}
	upper, up := Label(r.Config, words[0])
	lower, low := Label(r.Config, words[1])
	if !up || !low {
		return api.ErrName
	}
	r.pairs = append(r.pairs, [2]int{lower, upper})
	return api.OK
}

// user NAME NAME
func (r *reader) user(words []string) api.Errno {
	if !names(words, 2) {
		return api.ErrLine
	}
	label, there := Label(r.Config, words[1])
	_, known := User(r.Config, words[0])
	if !there || known {
		return api.ErrName
	}
	if len(r.Users) == api.MaxUsers {
		return api.ErrFull
	}
	r.Users = append(r.Users, api.User{Name: words[0], Label: label})
	return api.OK
}

// pred NAME NUM NUM
func (r *reader) pred(words []string) api.Errno {
	if len(words) != 3 || !value.Name(words[0]) {
		return api.ErrLine
	}
	arity, arityOK := number(words[1], 0, api.MaxArity)
	stratum, stratumOK := number(words[2], 0, api.MaxStrata-1)
	if !arityOK || !stratumOK {
		return api.ErrLine
	}
	if _, known := Pred(r.Config, words[0]); known {
		return api.ErrName
	}
	if len(r.Preds) == api.MaxPreds {
		return api.ErrFull
	}
	r.Preds = append(r.Preds, api.Pred{Name: words[0], Arity: int(arity), Stratum: int(stratum)})
	return api.OK
}

// bound NUM
func (r *reader) bound(words []string) api.Errno {
	if len(words) != 1 {
		return api.ErrLine
	}
	bound, ok := number(words[0], 1, api.MaxBound)
	if !ok {
		return api.ErrLine
	}
	if r.Bound != 0 {
		return api.ErrName
	}
	r.Bound = int(bound)
	return api.OK
}

// purse NUM NUM
func (r *reader) purse(words []string) api.Errno {
	if len(words) != 2 {
		return api.ErrLine
	}
	count, countOK := number(words[0], 0, api.MaxPurse)
	bytes, bytesOK := number(words[1], 0, api.MaxPurse)
	if !countOK || !bytesOK {
		return api.ErrLine
	}
	if r.hasPurse {
		return api.ErrName
	}
	r.Purse, r.hasPurse = complex(float64(count), float64(bytes)), true
	return api.OK
}

// end looks, behind the last line, whether nothing is missing, and makes the order.
func (r *reader) end() api.Errno {
	if len(r.Labels) == 0 || r.Bound == 0 || !r.hasPurse {
		return api.ErrLine
	}
	up, errno := poset.Build(len(r.Labels), r.pairs)
	r.Up = up
	return errno
}

// names: are they so many words, and each a name?
func names(words []string, n int) bool {
	for _, w := range words {
		if !value.Name(w) {
			return false
		}
	}
	return len(words) == n
}

// number reads a number that is one of those from the least to the most.
func number(word string, least, most int64) (int64, bool) {
	v, ok := value.Read(word)
	if !ok || v.Sym != "" || !from(least, v.Num, most) {
		return 0, false
	}
	return v.Num, true
}
