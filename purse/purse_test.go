package purse

import (
	"math"
	"strings"
	"testing"

	"mandate/api"
)

const most = api.MaxPurse

// minus is a nought with a sign.
func minus() float64 { return math.Copysign(0, -1) }

// right are parts that may be.
func right() []float64 {
	return []float64{0, minus(), 1, 2, 3, 1000, most / 2, most/2 + 1, most - 1, most}
}

// wrong are parts that may not be.
func wrong() []float64 {
	return []float64{
		-1, -most, 0.5, -0.5, 1.5, most - 0.5, most + 0.5, most + 1, 2 * most, math.MaxInt64, -math.MaxFloat64, math.MaxFloat64,
		math.SmallestNonzeroFloat64, -math.SmallestNonzeroFloat64, 1 - 1.0/(1<<53), 1 + 1.0/(1<<52), math.Inf(1), math.Inf(-1), math.NaN(),
	}
}

// purses are all purses of such parts.
func purses() []complex128 {
	var l []complex128
	for _, a := range right() {
		for _, b := range right() {
			l = append(l, complex(a, b))
		}
	}
	return l
}

// others are numbers one part of which at least may not be.
func others() []complex128 {
	var l []complex128
	for _, a := range wrong() {
		for _, b := range right() {
			l = append(l, complex(a, b), complex(b, a))
		}
		for _, b := range wrong() {
			l = append(l, complex(a, b))
		}
	}
	return l
}

// answered holds a purse that was answered against the parts that it should have; ok says whether there should be one.
func answered(t *testing.T, what string, got complex128, is bool, a, b float64, ok bool) {
	t.Helper()
	if !ok {
		a, b = 0, 0
	}
	if is != ok || real(got) != a || imag(got) != b {
		t.Errorf("%s: %v, %v; not %v, %v, %v", what, got, is, a, b, ok)
	}
	if math.Signbit(real(got)) || math.Signbit(imag(got)) {
		t.Errorf("%s: a part has a sign", what)
	}
}

// may: would these be the parts of a purse? (Of whole numbers.)
func may(a, b float64) bool {
	return a >= 0 && b >= 0 && a <= most && b <= most
}

func TestRight(t *testing.T) { // P3.1
	for _, x := range purses() {
		if !Right(x) {
			t.Errorf("Right(%v): false", x)
		}
	}
	for _, x := range others() {
		if Right(x) {
			t.Errorf("Right(%v): true", x)
		}
	}
}

func TestCost(t *testing.T) { // P3.1
	for text, want := range map[string]float64{"": 0, "abc": 3, "é": 2, "\xff\x00\n": 3, strings.Repeat("x", 1<<16): 1 << 16} {
		if got := Cost(text); got != complex(1, want) || !Right(got) {
			t.Errorf("Cost of %v bytes: %v", want, got)
		}
	}
}

func TestText(t *testing.T) { // P3.1
	for want, x := range map[string]complex128{
		"0 0":                         0,
		"1 3":                         complex(1, 3),
		"3 1":                         complex(3, 1),
		"0 1000000":                   complex(minus(), 1000000),
		"10 0":                        complex(10, minus()),
		"1099511627776 1099511627775": complex(most, most-1),
	} {
		if s, ok := Text(x); !ok || s != want {
			t.Errorf("Text(%v): %q, %v", x, s, ok)
		}
	}
	for _, x := range others() {
		if s, ok := Text(x); ok || s != "" {
			t.Errorf("Text(%v): %q, %v", x, s, ok)
		}
	}
}

func TestAddAndSub(t *testing.T) { // P3.2
	sum, ok := Add(complex(1, 3), complex(2, 5))
	answered(t, "Add of 1, 3 and 2, 5", sum, ok, 3, 8, true)
	rest, ok := Sub(complex(1, 3), complex(2, 0))
	answered(t, "Sub of 1, 3 and 2, 0", rest, ok, 0, 0, false)
	for _, x := range purses() {
		for _, y := range purses() {
			a, b := real(x)+real(y), imag(x)+imag(y)
			got, is := Add(x, y)
			answered(t, "Add", got, is, a, b, may(a, b))
			a, b = real(x)-real(y), imag(x)-imag(y)
			got, is = Sub(x, y)
			answered(t, "Sub", got, is, a, b, may(a, b))
		}
	}
}

func TestAddAndSubWrong(t *testing.T) { // P3.2
	for _, x := range others() {
		for _, y := range append(purses(), x, -x, 1-x) {
			for _, f := range []func(a, b complex128) (complex128, bool){Add, Sub} {
				got, is := f(x, y)
				answered(t, "of one that is no purse, first", got, is, 0, 0, false)
				got, is = f(y, x)
				answered(t, "of one that is no purse, last", got, is, 0, 0, Right(y) && Right(x))
			}
		}
	}
}

func TestTimes(t *testing.T) { // P3.2
	cases := []struct {
		a, b float64
		n    int
		ok   bool
	}{
		{0, 0, 0, true}, {1, 3, 0, true}, {most, most, 0, true},
		{1, 3, 1, true}, {most, 1, 1, true}, {2, 5, 3, true}, {0, 7, 6, true}, {7, 0, 6, true},
		{minus(), minus(), 5, true}, {minus(), 2, 0, true}, {3, minus(), 9, true},
		{most / 2, 1, 2, true}, {1, most / 2, 2, true}, {most/2 + 1, 1, 2, false}, {1, most/2 + 1, 2, false},
		{1, 0, most, true}, {1, 0, most + 1, false}, {0, 1, most + 1, false}, {1 << 20, 0, 1 << 20, true}, {1 << 20, 1, 1<<20 + 1, false},
		{most, 0, 2, false}, {1, 1, math.MaxInt, false}, {most, most, math.MaxInt, false},
		{0, 0, math.MaxInt, true}, {minus(), 0, math.MaxInt, true}, {1 << 32, 0, 1 << 32, false},
		{0, 0, -1, false}, {1, 1, -1, false}, {minus(), minus(), -1, false}, {1, 1, math.MinInt, false}, {0, 0, math.MinInt, false},
	}
	for _, c := range cases {
		got, is := Times(complex(c.a, c.b), c.n)
		answered(t, "Times", got, is, c.a*float64(c.n), c.b*float64(c.n), c.ok)
	}
	for _, x := range others() {
		for _, n := range []int{0, 1, 2, -1} {
			got, is := Times(x, n)
			answered(t, "Times of one that is no purse", got, is, 0, 0, false)
		}
	}
}

func TestSwap(t *testing.T) { // P3.2
	for _, x := range purses() {
		got, is := Swap(x)
		answered(t, "Swap", got, is, imag(x), real(x), true)
	}
	for _, x := range others() {
		got, is := Swap(x)
		answered(t, "Swap of one that is no purse", got, is, 0, 0, false)
	}
}

func TestFits(t *testing.T) { // P3.3
	cases := []struct {
		have, cost, most complex128
		want             bool
	}{
		{complex(1, 3), complex(1, 3), complex(2, 6), true},
		{complex(1, 3), complex(1, 3), complex(2, 5), false},
		{complex(1, 3), complex(1, 3), complex(1, 6), false},
		{complex(1, 3), complex(1, 3), complex(6, 2), false},
		{0, 0, 0, true},
		{complex(minus(), 0), complex(0, minus()), complex(minus(), minus()), true},
		{0, complex(0, 1), complex(most, 0), false},
		{complex(1, 0), 0, complex(0, most), false},
		{complex(most, most), 0, complex(most, most), true},
		{complex(most, 0), complex(0, most), complex(most, most), true},
		{complex(most, 0), complex(1, 0), complex(most, most), false},
		{complex(0, most), complex(0, most), complex(most, most), false},
	}
	for _, c := range cases {
		if got := Fits(c.have, c.cost, c.most); got != c.want {
			t.Errorf("Fits(%v, %v, %v): %v", c.have, c.cost, c.most, got)
		}
	}
}

func TestFitsWrong(t *testing.T) { // P3.3
	full := complex(most, most)
	for _, x := range others() {
		if Fits(x, 0, full) || Fits(0, x, full) || Fits(0, 0, x) || Fits(x, -x, full) || Fits(x, x, x) {
			t.Errorf("Fits of %v", x)
		}
	}
}
