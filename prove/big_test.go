package prove

import (
	"slices"
	"strconv"
	"testing"

	"mandate/api"
)

// chained are facts q(0, 1), q(1, 2) and so on, and some lines ahead of them.
func chained(n int, lines ...string) []string {
	for i := range n {
		lines = append(lines, "ann low q("+strconv.Itoa(i)+", "+strconv.Itoa(i+1)+").")
	}
	return lines
}

func TestALongChain(t *testing.T) { // P15.1, R1
	c := given(t, api.MaxBound)
	live := said(t, c, chained(89, "ann low q(X, Z) :- q(X, Y), q(Y, Z).")...)
	l, errno := Prove(c, live, top, read(t, "ann says q(0, 89)"))
	// 89 is 64 and 25: so it was found in the last round, out of q(0, 25) and q(25, 89).
	if errno != api.OK || len(l) < 89+6 || Depth(l) != 8 || !slices.Equal(told(l)[:2], []string{"0 2 - ann says q(0, 1)", "0 3 - ann says q(1, 2)"}) {
		t.Fatalf("%d nodes, %d deep, %d", len(l), Depth(l), errno)
	}
	last := l[len(l)-1]
	if got := []string{spelt(l[last.Kids[0]].Tuple), spelt(l[last.Kids[1]].Tuple), spelt(last.Tuple)}; !slices.Equal(got, []string{"ann says q(0, 25)", "ann says q(25, 89)", "ann says q(0, 89)"}) {
		t.Errorf("%q", got)
	}
}

func TestADeepChain(t *testing.T) { // P15.1, P15.2, R1
	c := given(t, api.MaxBound)
	live := said(t, c, chained(500, "ann low p(Y) :- p(X), q(X, Y).", "ann low p(0).")...)
	l, errno := Prove(c, live, top, read(t, "ann says p(500)"))
	if errno != api.OK || len(l) != 1001 || Depth(l) != 501 {
		t.Fatalf("%d nodes, %d deep, %d", len(l), Depth(l), errno)
	}
}

func TestManyInstances(t *testing.T) { // P15.1, R1: what could be gone through for ever is not
	c := given(t, api.MaxBound)
	for body, want := range map[string][]string{
		"p(X), p(Y), p(Z), p(V), p(W)":                                      {"0 2 - ann says p(0)", "0 1 0,0,0,0,0 ann says last(1)"},
		"p(U), p(V), p(W), p(X), p(Y), Y < U":                               {"0 2 - ann says p(0)", "0 3 - ann says p(1)", "0 1 1,0,0,0,0 ann says last(1)"},
		"p(U), p(V), p(W), V < U, W < V, 490 < W":                           {"0 493 - ann says p(491)", "0 494 - ann says p(492)", "0 495 - ann says p(493)", "0 1 2,1,0 ann says last(1)"},
		"p(U), p(V), p(W), p(X), 496 < X, not q(U, X)":                      {"0 2 - ann says p(0)", "0 499 - ann says p(497)", "0 1 0,0,0,1 ann says last(1) not ann says q(0, 497)"},
		"A says p(U), B says p(V), C says p(W), D says p(X), E says p(497)": {"0 2 - ann says p(0)", "0 499 - ann says p(497)", "0 1 0,0,0,0,1 ann says last(1)"},
		"p(U), p(V), p(W), p(X), X < V, V < X":                              {"0 4 - ann says p(2)", "0 500 0 ann says last(1)"},
		"p(U), p(V), p(W), p(X), p(Y), q(Y, Y)":                             {"0 4 - ann says p(2)", "0 500 0 ann says last(1)"},
	} {
		live := said(t, c, append(many(498, "ann low last(1) :- "+body+"."), "ann low last(1) :- p(2).")...)
		proves(t, c, live, top, "ann says last(1)", want...)
	}
}
