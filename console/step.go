package console

import (
	"strconv"
	"strings"

	"mandate/api"
	"mandate/value"
)

const (
	blank  = " "
	end    = "\n"
	remark = "#"
)

// The words of the steps that nobody asks, and the one ahead of units.
const (
	tickWord  = "tick"
	checkWord = "checkpoint"
	crashWord = "crash"
	powerWord = "power"
)

// What stands behind a user: whether what they ask can be written.
const (
	asks = ":"
	fail = "!"
)

// maxUnits is the greatest number of a step.
const maxUnits = 1 << 40

// right: may a step be written?
func right(s api.Step) bool {
	if !bounded(s.Units) || !bounded(s.Keep) {
		return false
	}
	alone := s.User == "" && s.Text == "" && !s.Fail
	fed := s.Units > 0 || s.Keep == 0
	switch s.Kind {
	case api.SAsk:
		return fed && value.Name(s.User) && !strings.Contains(s.Text, end)
	case api.STick, api.SCheck:
		return fed && alone
	case api.SCrash:
		return alone && s.Units == 0
	}
	return false
}

func bounded(n int) bool {
	return 0 <= n && n <= maxUnits
}

// line is that of a step that may be written.
func line(s api.Step) string {
	var text string
	switch s.Kind {
	case api.SAsk:
		text = s.User + sign(s.Fail) + blank + s.Text
	case api.STick:
		text = tickWord
	case api.SCheck:
		text = checkWord
	case api.SCrash:
		text = crashWord + blank + strconv.Itoa(s.Keep)
	}
	if s.Units > 0 {
		return strings.Join([]string{powerWord, strconv.Itoa(s.Units), strconv.Itoa(s.Keep), text}, blank)
	}
	return text
}

func sign(fails bool) string {
	if fails {
		return fail
	}
	return asks
}

// noLine is what is thrown where a line is no step's.
type noLine struct{}

// parser is what is left of a line.
type parser struct {
	left string
}

// step reads the step whose line a text is, if it is one's.
func step(text string) (s api.Step, ok bool) {
	defer func() {
		if r := recover(); r != nil {
			// Nothing but this is thrown on purpose: all else goes on its way up.
			_ = r.(noLine)
		}
	}()
	p := &parser{left: text}
	made := p.step()
	// Of all texts that are read as one step, only one is its line.
	if !right(made) || line(made) != text {
		panic(noLine{})
	}
	return made, true
}

func (p *parser) step() api.Step {
	var s api.Step
	if p.took(powerWord + blank) {
		s.Units = number(p.upTo(blank))
		s.Keep = number(p.upTo(blank))
	}
	switch {
	case p.left == tickWord:
		s.Kind = api.STick
	case p.left == checkWord:
		s.Kind = api.SCheck
	case p.took(crashWord + blank):
		s.Kind = api.SCrash
		s.Keep = number(p.left)
	default:
		s.Kind = api.SAsk
		s.User = p.upTo(blank)
		s.User, s.Fail = unsigned(s.User)
		s.Text = p.left
	}
	return s
}

// took takes a beginning, if it is there.
func (p *parser) took(beginning string) bool {
	behind, ok := strings.CutPrefix(p.left, beginning)
	p.left = behind
	return ok
}

// upTo takes what stands ahead of a mark, and the mark.
func (p *parser) upTo(mark string) string {
	part, behind, ok := strings.Cut(p.left, mark)
	if !ok {
		panic(noLine{})
	}
	p.left = behind
	return part
}

// unsigned tells the user of a user and the sign behind them, and whether what they ask fails.
func unsigned(word string) (string, bool) {
	if user, ok := strings.CutSuffix(word, fail); ok {
		return user, true
	}
	return strings.TrimSuffix(word, asks), false
}

func number(word string) int {
	v, ok := value.Read(word)
	if !ok || v.Sym != "" {
		panic(noLine{})
	}
	return int(v.Num)
}
