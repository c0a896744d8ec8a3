package config

import (
	"math"
	"math/rand"
	"reflect"
	"strings"
	"testing"

	"mandate/api"
	"mandate/poset"
)

// name is the n-th of many names, the longest ones that may be.
func name(n int) string {
	return "n" + strings.Repeat("_", api.MaxName-3) + string(rune('a'+n/10)) + string(rune('0'+n%10))
}

// small is the configuration of the chapter's first example.
func small() api.Config {
	return api.Config{
		Labels: []string{"low", "high"},
		Up:     []uint64{3, 2},
		Users:  []api.User{{Name: "ann", Label: 0}},
		Preds:  []api.Pred{{Name: "p", Arity: 1, Stratum: 0}},
		Bound:  9,
		Purse:  complex(3, 100),
	}
}

// full is a configuration with as much of all as may be: of its labels one half stands above the whole other half.
func full(t *testing.T) api.Config {
	t.Helper()
	c := api.Config{Bound: api.MaxBound, Purse: complex(api.MaxPurse, api.MaxPurse)}
	var pairs [][2]int
	for n := range api.MaxLabels {
		c.Labels = append(c.Labels, name(n))
		for above := range n % 2 * api.MaxLabels / 2 {
			pairs = append(pairs, [2]int{n, 2 * above})
		}
	}
	for n := range api.MaxUsers {
		c.Users = append(c.Users, api.User{Name: name(n), Label: api.MaxLabels - 1 - n})
	}
	for n := range api.MaxPreds {
		c.Preds = append(c.Preds, api.Pred{Name: name(n), Arity: n % (api.MaxArity + 1), Stratum: n % api.MaxStrata})
	}
	up, e := poset.Build(api.MaxLabels, pairs)
	if e != api.OK {
		t.Fatalf("Build: %d", e)
	}
	c.Up = up
	return c
}

// same: are they the same, lists of no members as well as none?
func same(a, b api.Config) bool {
	norm := func(c api.Config) api.Config {
		if len(c.Users) == 0 {
			c.Users = nil
		}
		if len(c.Preds) == 0 {
			c.Preds = nil
		}
		return c
	}
	return reflect.DeepEqual(norm(a), norm(b))
}

// random is a configuration of at most so many labels.
func random(t *testing.T, r *rand.Rand, most int) api.Config {
	t.Helper()
	n := 1 + r.Intn(most)
	c := api.Config{Bound: 1 + r.Intn(api.MaxBound), Purse: complex(float64(r.Int63n(api.MaxPurse+1)), float64(r.Intn(3)))}
	numbers := r.Perm(n)
	var pairs [][2]int
	for _, i := range numbers {
		c.Labels = append(c.Labels, name(i))
	}
	for range r.Intn(2 * n) {
		// Numbers in the order of names rise along each pair, so that no two labels are each above the other.
		a, b := r.Intn(n), r.Intn(n)
		if numbers[a] > numbers[b] {
			a, b = b, a
		}
		pairs = append(pairs, [2]int{a, b})
	}
	up, e := poset.Build(n, pairs)
	if e != api.OK {
		t.Fatalf("Build: %d", e)
	}
	c.Up = up
	for _, i := range r.Perm(api.MaxUsers)[:r.Intn(api.MaxUsers+1)] {
		c.Users = append(c.Users, api.User{Name: name(i), Label: r.Intn(n)})
	}
	for _, i := range r.Perm(api.MaxPreds)[:r.Intn(api.MaxPreds+1)] {
		c.Preds = append(c.Preds, api.Pred{Name: name(i), Arity: r.Intn(api.MaxArity + 1), Stratum: r.Intn(api.MaxStrata)})
	}
	return c
}

// may looks whether a configuration may be, and whether what is printed of it is it.
func may(t *testing.T, what string, c api.Config) {
	t.Helper()
	if !Right(c) {
		t.Errorf("Right of %s: false", what)
	}
	text, e := Print(c)
	if e != api.OK || !strings.HasSuffix(text, "\n") {
		t.Fatalf("Print of %s: %q, %d", what, text, e)
	}
	again, line, e := Parse(text)
	if e != api.OK || line != 0 || !same(again, c) {
		t.Errorf("Parse of Print of %s: %v, %d, %d", what, again, line, e)
	}
}

// mayNot looks whether a configuration may not be.
func mayNot(t *testing.T, what string, c api.Config) {
	t.Helper()
	if Right(c) {
		t.Errorf("Right of %s: true", what)
	}
	if text, e := Print(c); text != "" || e != api.ErrArg {
		t.Errorf("Print of %s: %q, %d", what, text, e)
	}
}

func TestRight(t *testing.T) { // P7.2
	may(t, "the small one", small())
	may(t, "the full one", full(t))
	may(t, "the least one", api.Config{Labels: []string{"a"}, Up: []uint64{1}, Bound: 1})
	r := rand.New(rand.NewSource(7))
	for range 300 {
		may(t, "a random one", random(t, r, 6))
		may(t, "a random one", random(t, r, api.MaxLabels))
	}
	for what, change := range map[string]func(*api.Config){
		"lists of none":         func(c *api.Config) { c.Users, c.Preds = []api.User{}, nil },
		"one name of all kinds": func(c *api.Config) { c.Users[0].Name, c.Preds[0].Name = "low", "low" },
		"words of lines":        func(c *api.Config) { c.Labels[0], c.Users[0].Name, c.Preds[0].Name = "label", "user", "above" },
		"the other label":       func(c *api.Config) { c.Users[0].Label = 1 },
		"labels side by side":   func(c *api.Config) { c.Up = []uint64{1, 2} },
		"labels the other way":  func(c *api.Config) { c.Up = []uint64{1, 3} },
		"the least numbers":     func(c *api.Config) { c.Preds[0].Arity, c.Bound, c.Purse = 0, 1, 0 },
		"the greatest numbers":  func(c *api.Config) { c.Preds[0].Arity, c.Preds[0].Stratum, c.Bound = 4, 7, 4096 },
		"the greatest purse":    func(c *api.Config) { c.Purse = complex(1<<40, 0) },
		"the other purse":       func(c *api.Config) { c.Purse = complex(0, 1<<40) },
		"noughts below 0":       func(c *api.Config) { c.Purse = complex(math.Copysign(0, -1), math.Copysign(0, -1)) },
	} {
		c := small()
		change(&c)
		may(t, what, c)
	}
}

func TestRightRefuses(t *testing.T) { // P7.2
	mayNot(t, "nothing", api.Config{})
	for what, change := range map[string]func(*api.Config){
		"no labels":                 func(c *api.Config) { c.Labels, c.Up, c.Users = nil, nil, nil },
		"no order":                  func(c *api.Config) { c.Up = nil },
		"too short an order":        func(c *api.Config) { c.Up = []uint64{1} },
		"too long an order":         func(c *api.Config) { c.Up = []uint64{3, 2, 4} },
		"labels above one another":  func(c *api.Config) { c.Up = []uint64{3, 3} },
		"a label not at itself":     func(c *api.Config) { c.Up = []uint64{3, 0} },
		"a bit of no label":         func(c *api.Config) { c.Up = []uint64{7, 2} },
		"an open order":             func(c *api.Config) { c.Labels, c.Up = []string{"a", "b", "c"}, []uint64{3, 6, 4} },
		"a label twice":             func(c *api.Config) { c.Labels[1] = "low" },
		"a label without a name":    func(c *api.Config) { c.Labels[1] = "" },
		"a label named not":         func(c *api.Config) { c.Labels[1] = "not" },
		"a label named High":        func(c *api.Config) { c.Labels[1] = "High" },
		"a label with a line's end": func(c *api.Config) { c.Labels[1] = "a\nlabel" },
		"a user's label below":      func(c *api.Config) { c.Users[0].Label = -1 },
		"a user's label beyond":     func(c *api.Config) { c.Users[0].Label = 2 },
		"a user's label far off":    func(c *api.Config) { c.Users[0].Label = math.MinInt },
		"a user twice":              func(c *api.Config) { c.Users = []api.User{{Name: "a"}, {Name: "b"}, {Name: "a", Label: 1}} },
		"a user without a name":     func(c *api.Config) { c.Users[0].Name = "" },
		"a user named says":         func(c *api.Config) { c.Users[0].Name = "says" },
		"a user of two words":       func(c *api.Config) { c.Users[0].Name = "ann low" },
		"a pred twice":              func(c *api.Config) { c.Preds = []api.Pred{{Name: "p"}, {Name: "p", Arity: 1}} },
		"a pred without a name":     func(c *api.Config) { c.Preds[0].Name = "" },
		"a pred named 7":            func(c *api.Config) { c.Preds[0].Name = "7" },
		"a pred of 17 bytes":        func(c *api.Config) { c.Preds[0].Name = strings.Repeat("a", 17) },
		"an arity below 0":          func(c *api.Config) { c.Preds[0].Arity = -1 },
		"an arity of 5":             func(c *api.Config) { c.Preds[0].Arity = 5 },
		"a stratum below 0":         func(c *api.Config) { c.Preds[0].Stratum = -1 },
		"a stratum of 8":            func(c *api.Config) { c.Preds[0].Stratum = 8 },
		"a bound of 0":              func(c *api.Config) { c.Bound = 0 },
		"a bound below 0":           func(c *api.Config) { c.Bound = math.MinInt },
		"a bound of 4097":           func(c *api.Config) { c.Bound = 4097 },
		"a purse below 0":           func(c *api.Config) { c.Purse = complex(-1, 0) },
		"half a purse":              func(c *api.Config) { c.Purse = complex(0, 0.5) },
		"too great a purse":         func(c *api.Config) { c.Purse = complex(1<<40+1, 0) },
		"too heavy a purse":         func(c *api.Config) { c.Purse = complex(0, 1<<40+1) },
		"a purse of no number":      func(c *api.Config) { c.Purse = complex(math.NaN(), 0) },
		"a purse without end":       func(c *api.Config) { c.Purse = complex(0, math.Inf(1)) },
	} {
		c := small()
		change(&c)
		mayNot(t, what, c)
	}
}

func TestRightOfTooMany(t *testing.T) { // P7.2
	for what, change := range map[string]func(*api.Config){
		"65 labels": func(c *api.Config) { c.Labels, c.Up = append(c.Labels, "a"), append(c.Up, 0) },
		"17 users":  func(c *api.Config) { c.Users = append(c.Users, api.User{Name: "a"}) },
		"33 preds":  func(c *api.Config) { c.Preds = append(c.Preds, api.Pred{Name: "a"}) },
		"the last user twice": func(c *api.Config) {
			c.Users[api.MaxUsers-1].Name = c.Users[api.MaxUsers-2].Name
		},
		"the last pred twice": func(c *api.Config) {
			c.Preds[api.MaxPreds-1].Name = c.Preds[0].Name
		},
		"the last label twice": func(c *api.Config) {
			c.Labels[api.MaxLabels-1] = c.Labels[0]
		},
	} {
		c := full(t)
		change(&c)
		mayNot(t, what, c)
	}
}

func TestPrint(t *testing.T) { // P7.2
	c := api.Config{
		Labels: []string{"top", "low", "left", "right", "alone"},
		Up:     []uint64{1, 15, 5, 9, 16},
		Users:  []api.User{{Name: "zoe", Label: 4}, {Name: "ann", Label: 1}},
		Preds:  []api.Pred{{Name: "q", Arity: 4, Stratum: 7}, {Name: "p"}},
		Bound:  4096,
		Purse:  complex(0, 1<<40),
	}
	want := "label top\nlabel low\nlabel left\nlabel right\nlabel alone\n" +
		"above left low\nabove right low\nabove top left\nabove top right\n" +
		"user zoe alone\nuser ann low\npred q 4 7\npred p 0 0\nbound 4096\npurse 0 1099511627776\n"
	if text, e := Print(c); e != api.OK || text != want {
		t.Errorf("Print: %q, %d", text, e)
	}
	want = "label low\nlabel high\nabove high low\nuser ann low\npred p 1 0\nbound 9\npurse 3 100\n"
	if text, e := Print(small()); e != api.OK || text != want {
		t.Errorf("Print: %q, %d", text, e)
	}
	if text, e := Print(full(t)); e != api.OK || len(text) > api.MaxConfig || strings.Count(text, "above ") != 1024 {
		t.Errorf("Print of the full one: %d bytes, %d", len(text), e)
	}
}

// finds looks what is found of a name.
func finds(t *testing.T, find func(api.Config, string) (int, bool), c api.Config, name string, at int, ok bool) {
	t.Helper()
	if a, b := find(c, name); a != at || b != ok {
		t.Errorf("of %q in %v: %d, %v", name, c, a, b)
	}
}

func TestFind(t *testing.T) { // P7.3
	c := full(t)
	for n := range api.MaxLabels {
		finds(t, Label, c, name(n), n, true)
		if n < api.MaxUsers {
			finds(t, User, c, name(n), n, true)
		}
		if n < api.MaxPreds {
			finds(t, Pred, c, name(n), n, true)
		}
	}
	c = small()
	finds(t, Label, c, "high", 1, true)
	finds(t, User, c, "ann", 0, true)
	finds(t, Pred, c, "p", 0, true)
	for _, s := range []string{"", "lo", "loww", "Low", "p ", "a", "ann\n", "not", "0"} {
		finds(t, Label, c, s, 0, false)
		finds(t, User, c, s, 0, false)
		finds(t, Pred, c, s, 0, false)
		finds(t, Label, api.Config{}, s, 0, false)
		finds(t, User, api.Config{}, s, 0, false)
		finds(t, Pred, api.Config{}, s, 0, false)
	}
	for _, s := range []string{"low", "high"} {
		finds(t, User, c, s, 0, false)
		finds(t, Pred, c, s, 0, false)
	}
}

func TestFindInWhatMayNotBe(t *testing.T) { // P7.3
	c := api.Config{
		Labels: []string{"a", "b", "c", "b", "", "not"},
		Users:  []api.User{{Name: "ann", Label: 9}, {Name: "bob"}, {Name: "bob", Label: -1}, {Name: "B b"}},
		Preds:  []api.Pred{{Name: "p"}, {Name: ""}, {Name: "q", Arity: 9}, {Name: "q"}},
	}
	finds(t, Label, c, "b", 1, true)
	finds(t, Label, c, "", 4, true)
	finds(t, Label, c, "not", 5, true)
	finds(t, User, c, "bob", 1, true)
	finds(t, User, c, "B b", 3, true)
	finds(t, Pred, c, "", 1, true)
	finds(t, Pred, c, "q", 2, true)
	finds(t, Label, c, "bob", 0, false)
	finds(t, User, c, "q", 0, false)
	finds(t, Pred, c, "a", 0, false)
}

func TestNothingIsChanged(t *testing.T) { // P7.2, P7.3, R4
	c, want := full(t), full(t)
	Right(c)
	Print(c)
	Label(c, name(3))
	User(c, name(3))
	Pred(c, name(3))
	if !reflect.DeepEqual(c, want) {
		t.Errorf("changed to %v", c)
	}
}
