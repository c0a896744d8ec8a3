package service

import (
	"strconv"
	"strings"

	"mandate/api"
	"mandate/chain"
	"mandate/check"
	"mandate/config"
	"mandate/delta"
	"mandate/lower"
	"mandate/plan"
	"mandate/poset"
	"mandate/prove"
	"mandate/purse"
	"mandate/request"
	"mandate/sha"
)

// done is the answer of what has nothing to tell, overlimit that of a user at whose label the model is over.
const (
	done      = "ok"
	overlimit = "overlimit"
)

// end stands between an answer's lines.
const end = "\n"

// act tells what a request does once it is written, or what is against it.
func (s *Service) act(user int, text string) (func() string, error) {
	if user >= len(s.config.Users) {
		return nil, fault{api.ErrUser}
	}
	q, at, errno := request.Parse(text)
	if errno != api.OK {
		return nil, placed{at, fault{errno}}
	}
	act, errno := s.kind(user, text, q)
	if errno != api.OK {
		return nil, fault{errno}
	}
	return act, nil
}

// kind tells it of a request that was read.
func (s *Service) kind(user int, text string, q api.Request) (func() string, api.Errno) {
	switch q.Kind {
	case api.QAssert:
		return s.assert(user, q, purse.Cost(text))
	case api.QRevoke:
		return s.revoke(user, q)
	case api.QQuery:
		return s.query(user, q)
	case api.QProve:
		return s.prove(user, q)
	}
	return s.audit(user)
}

func (s *Service) assert(user int, q api.Request, cost complex128) (func() string, api.Errno) {
	label, ok := config.Label(s.config, q.Label)
	if !ok {
		return nil, api.ErrLabel
	}
	return func() string {
		no, _ := s.Assert(user, label, q.Life, q.Clause, cost)
		s.base = nil
		return "id " + strconv.Itoa(no)
	}, s.May(user, label, q.Life, q.Clause, cost)
}

func (s *Service) revoke(user int, q api.Request) (func() string, api.Errno) {
	if !s.Has(user, q.No) {
		return nil, api.ErrId
	}
	return func() string {
		s.Revoke(user, q.No)
		s.base = nil
		return done
	}, api.OK
}

func (s *Service) query(user int, q api.Request) (func() string, api.Errno) {
	pattern, errno := lower.Pattern(s.config, user, q.Lit)
	return func() string {
		l, over := s.atoms(user, pattern)
		if over {
			return overlimit
		}
		return counted("atoms", l, func(t api.Tuple) string {
			text, _ := lower.Text(t)
			return text
		})
	}, errno
}

func (s *Service) prove(user int, q api.Request) (func() string, api.Errno) {
	pattern, errno := lower.Pattern(s.config, user, q.Lit)
	if errno == api.OK && len(plan.Vars(pattern)) > 0 {
		errno = api.ErrRange
	}
	return func() string {
		l, over := s.atoms(user, pattern)
		switch {
		case over:
			return overlimit
		case len(l) == 0:
			return "deny"
		}
		// Without variables it is the pattern's own atom that is there.
		nodes, _ := prove.Prove(s.config, s.All(), s.config.Users[user].Label, l[0])
		return listed("grant", nodes, nodeLine)
	}, errno
}

func (s *Service) audit(user int) (func() string, api.Errno) {
	return func() string {
		below := poset.Below(s.config.Up, s.config.Users[user].Label)
		return counted("audit", s.entries.Lines(below), s.auditLine)
	}, api.OK
}

// atoms tells the atoms that a pattern matches of the model at a user's label; true, if that is over.
func (s *Service) atoms(user int, pattern api.Flat) ([]api.Tuple, bool) {
	if s.base == nil {
		// What is live is a live list.
		s.base, _ = delta.Run(s.config, s.All())
	}
	l, over, _ := s.base.Select(s.config.Users[user].Label, pattern)
	return l, over
}

// counted is a list's answer, behind how many there are.
func counted[T any](word string, l []T, line func(T) string) string {
	return listed(word+" "+strconv.Itoa(len(l)), l, line)
}

// listed is a first line and one for each of a list.
func listed[T any](first string, l []T, line func(T) string) string {
	lines := []string{first}
	for _, one := range l {
		lines = append(lines, line(one))
	}
	return strings.Join(lines, end)
}

// nodeLine is a node's line. Each is printed for itself, as a whole proof is printed only up to a length that no answer is held to.
func nodeLine(n api.Node) string {
	nots := n.Nots
	n.Nots = nil
	text, _ := check.Print([]api.Node{n})
	text = strings.TrimSuffix(text, end)
	for _, t := range nots {
		// A variable speaker may have been a number. Such an atom has no text, and Print takes no node with it.
		not, _ := lower.Text(t)
		text += " not " + not
	}
	return text
}

// auditLine is an entry's line.
func (s *Service) auditLine(l chain.Line) string {
	e := l.Entry
	return strings.Join([]string{
		s.config.Labels[l.Label], strconv.Itoa(l.No), e.User, strconv.FormatInt(e.Tick, 10), sha.Hex(e.Digest), e.Text,
	}, " ")
}
