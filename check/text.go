package check

import (
	"strconv"
	"strings"

	"mandate/api"
	"mandate/lower"
	"mandate/value"
)

const (
	blank = " "
	end   = "\n"
	none  = "-"     // written for no kids
	comma = ","     // between kids
	not   = " not " // ahead of what is not so
)

// right: may a node be?
func right(n api.Node) bool {
	if n.User < 0 || n.User >= api.MaxUsers || n.No < 1 || int64(n.No) > api.MaxTick {
		return false
	}
	if len(n.Kids) > api.MaxBody || len(n.Nots) > api.MaxBody || !value.Right(n.Tuple) {
		return false
	}
	for _, k := range n.Kids {
		if k < 0 || k >= api.MaxNodes {
			return false
		}
	}
	for _, t := range n.Nots {
		if !value.Right(t) {
			return false
		}
	}
	return true
}

// Print writes a proof.
func Print(l []api.Node) (string, api.Errno) {
	for _, n := range l {
		if !right(n) {
			return "", api.ErrArg
		}
	}
	if len(l) > api.MaxNodes {
		return "", api.ErrFull
	}
	var text strings.Builder
	for _, n := range l {
		text.WriteString(line(n) + end)
	}
	if text.Len() > api.MaxProof {
		return "", api.ErrLong
	}
	return text.String(), api.OK
}

// line is that of a node that may be.
func line(n api.Node) string {
	what, _ := lower.Text(n.Tuple)
	text := strings.Join([]string{strconv.Itoa(n.User), strconv.Itoa(n.No), kids(n.Kids), what}, blank)
	for _, t := range n.Nots {
		what, _ := lower.Text(t)
		text += not + what
	}
	return text
}

func kids(l []int) string {
	if len(l) == 0 {
		return none
	}
	var numbers []string
	for _, k := range l {
		numbers = append(numbers, strconv.Itoa(k))
	}
	return strings.Join(numbers, comma)
}

// Read reads a proof.
func Read(s string) ([]api.Node, int, api.Errno) {
	if len(s) > api.MaxProof {
		return nil, 0, api.ErrLong
	}
	var l []api.Node
	for s != "" {
		if len(l) == api.MaxNodes {
			return nil, len(l) + 1, api.ErrFull
		}
		text, behind, ended := strings.Cut(s, end)
		n, ok := node(text)
		if !ok || !ended {
			return nil, len(l) + 1, api.ErrLine
		}
		l, s = append(l, n), behind
	}
	return l, 0, api.OK
}

// noLine is what is thrown where a line is no node's.
type noLine struct{}

// node reads the node whose line a text is, if it is one's.
func node(text string) (n api.Node, ok bool) {
	defer func() {
		if r := recover(); r != nil {
			// Nothing but this is thrown on purpose: all else goes on its way up.
			_ = r.(noLine)
			n, ok = api.Node{}, false
		}
	}()
	var made api.Node
	left, more := text, true
	cut := func(at string) string {
		part, behind, found := strings.Cut(left, at)
		left, more = behind, found
		return part
	}
	steps := []func(){
		func() { made.User = number(cut(blank)) },
		func() { made.No = number(cut(blank)) },
		func() { made.Kids = places(cut(blank)) },
		func() { made.Tuple = tuple(cut(not)) },
		func() {
			for more {
				made.Nots = append(made.Nots, tuple(cut(not)))
			}
		},
	}
	for _, take := range steps {
		take()
	}
	// Of all texts that are read as one node, only one is its line.
	if !right(made) || line(made) != text {
		panic(noLine{})
	}
	return made, true
}

func number(word string) int {
	n, err := strconv.Atoi(word)
	if err != nil {
		panic(noLine{})
	}
	return n
}

func places(word string) []int {
	if word == none {
		return nil
	}
	var l []int
	for _, one := range strings.Split(word, comma) {
		l = append(l, number(one))
	}
	return l
}

func tuple(words string) api.Tuple {
	t, ok := lower.Read(words)
	if !ok {
		panic(noLine{})
	}
	return t
}
