package clause

import (
	"strings"

	"mandate/api"
	"mandate/value"
)

// Print writes a clause.
func Print(c api.Clause) (string, api.Errno) {
	if !Check(c) {
		return "", api.ErrArg
	}
	text := saidText(c.Head)
	if len(c.Body) > 0 {
		text += " :- " + listText(c.Body, literalText)
	}
	return text + ".", api.OK
}

// PrintLit writes a literal.
func PrintLit(l api.Lit) (string, api.Errno) {
	if !CheckLit(l) {
		return "", api.ErrArg
	}
	return saidText(l), api.OK
}

func literalText(l api.Lit) string {
	switch l.Kind {
	case api.LNot:
		return "not " + saidText(l)
	case api.LLess:
		return termText(l.Args[0]) + " < " + termText(l.Args[1])
	case api.LUnlike:
		return termText(l.Args[0]) + " != " + termText(l.Args[1])
	}
	return saidText(l)
}

func saidText(l api.Lit) string {
	text := l.Pred
	if l.Who != (api.Term{}) {
		text = termText(l.Who) + " says " + text
	}
	if len(l.Args) > 0 {
		text += "(" + listText(l.Args, termText) + ")"
	}
	return text
}

func termText(t api.Term) string {
	if t.Var != "" {
		return t.Var
	}
	s, _ := value.Text(t.Val)
	return s
}

// listText writes one after the other, with a comma and a blank between.
func listText[T any](l []T, one func(T) string) string {
	var texts []string
	for _, x := range l {
		texts = append(texts, one(x))
	}
	return strings.Join(texts, ", ")
}
