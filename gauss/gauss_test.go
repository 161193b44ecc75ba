package gauss_test

import (
	"math"
	"slices"
	"testing"

	"aileron/api"
	"aileron/gauss"
)

// last is the greatest part of a right number.
const last = api.MaxGauss - 1

var (
	inf     = math.Inf(1)
	nan     = math.NaN()
	negZero = math.Copysign(0, -1)
)

// someParts are parts of right numbers: 0, small ones, some between, and the last ones.
var someParts = []int{0, 1, -1, 2, -2, 3, -5, 7, 1023, -1024, 1 << 19, -1 << 19, 1<<19 - 1, last - 1, 1 - last, last, -last}

// wrongParts are parts that no right number has: one beyond, far beyond, not whole, infinite, and no number.
var wrongParts = []float64{
	last + 1, -last - 1, last + 2, -last - 2, last + 0.5, -last - 0.5, math.Nextafter(last, inf), math.Nextafter(last+1, 0), math.Nextafter(-last-1, 0),
	1 << 21, 1 << 31, 1 << 32, -1 << 32, 1<<32 + 1, 1 << 53, 1 << 63, -1 << 63, 1 << 64, 1e300, math.MaxFloat64, -math.MaxFloat64,
	0.5, -0.5, 0.25, 1.5, -2.5, 1023.75, math.Nextafter(1, 0), math.Nextafter(1, 2), math.SmallestNonzeroFloat64, -math.SmallestNonzeroFloat64, 1e-9,
	inf, -inf, nan,
}

// number is the number of two parts that may be.
func number(re, im int) complex128 { return complex(float64(re), float64(im)) }

// someNumbers are all right numbers of such parts.
func someNumbers() []complex128 {
	var l []complex128
	for _, re := range someParts {
		for _, im := range someParts {
			l = append(l, number(re, im))
		}
	}
	return l
}

// square is all numbers whose parts are from -n to n.
func square(n int) []complex128 {
	var l []complex128
	for re := -n; re <= n; re++ {
		for im := -n; im <= n; im++ {
			l = append(l, number(re, im))
		}
	}
	return l
}

// zeros are all ways to write 0.
func zeros() []complex128 {
	return []complex128{0, complex(negZero, 0), complex(0, negZero), complex(negZero, negZero)}
}

// scattered is so many right numbers, great and small, without an order, and always the same ones.
func scattered(n int) []complex128 {
	l := make([]complex128, n)
	x := uint64(1)
	part := func() int {
		x = x*6364136223846793005 + 1442695040888963407
		return int(x>>33)%(2*last+1) - last
	}
	for i := range l {
		less := 1 << (i % 20)
		l[i] = number(part()/less, part()/less)
	}
	return l
}

// wrongNumbers have a wrong part, or two.
func wrongNumbers() []complex128 {
	var l []complex128
	for _, x := range wrongParts {
		l = append(l, complex(x, 0), complex(0, x), complex(x, 3), complex(-last, x), complex(x, negZero), complex(x, x), complex(x, nan), complex(inf, x))
	}
	return l
}

// pairs goes through all pairs of numbers.
func pairs(l []complex128, do func(y, z complex128)) {
	for _, y := range l {
		for _, z := range l {
			do(y, z)
		}
	}
}

// ints are the parts of a right number.
func ints(z complex128) (int, int) { return int(real(z)), int(imag(z)) }

// mayBe tells whether a number of these parts is right.
func mayBe(re, im int) bool {
	return re > -1<<20 && re < 1<<20 && im > -1<<20 && im < 1<<20
}

// is tells whether a number is that one to the last bit: a 0 that is below 0 is none.
func is(z, want complex128) bool {
	same := func(x, y float64) bool { return x == y && (x != 0 || !math.Signbit(x)) }
	return same(real(z), real(want)) && same(imag(z), imag(want))
}

// holds tells whether an answer is the number of these parts, if that is right, and else ErrRange.
func holds(z complex128, e api.Errno, re, im int) bool {
	if mayBe(re, im) {
		return e == api.OK && is(z, number(re, im))
	}
	return e == api.ErrRange && is(z, 0)
}

// P3.1
func TestMayOfRightNumbers(t *testing.T) {
	for _, z := range slices.Concat(someNumbers(), square(20), scattered(1000), zeros()) {
		if !gauss.May(z) {
			t.Errorf("%v may not be", z)
		}
	}
}

// P3.1
func TestMayOfWrongNumbers(t *testing.T) {
	for _, z := range wrongNumbers() {
		if gauss.May(z) {
			t.Errorf("%v may be", z)
		}
	}
}

// P3.1
func TestOfAndParts(t *testing.T) {
	for _, want := range slices.Concat(someNumbers(), square(20), scattered(1000)) {
		re, im := ints(want)
		z, e := gauss.Of(re, im)
		if !is(z, want) || e != api.OK {
			t.Errorf("Of(%d, %d): %v, %v", re, im, z, e)
		}
		if x, y, e := gauss.Parts(z); x != re || y != im || e != api.OK {
			t.Errorf("Parts(%v): %d, %d, %v", z, x, y, e)
		}
	}
}

// P3.1
func TestOfPartsThatAreTooGreat(t *testing.T) {
	for _, x := range []int{
		last + 1, -last - 1, last + 2, -last - 2, 1 << 21, 1 << 31, -1 << 31, 1 << 32, 1<<32 + 5, -1<<32 + 1, 1<<53 + 1, 1 << 62,
		math.MaxInt, math.MaxInt - 1, math.MinInt, math.MinInt + 1,
	} {
		for _, p := range [][2]int{{x, 0}, {0, x}, {x, last}, {-last, x}, {x, x}, {x, -x}} {
			if z, e := gauss.Of(p[0], p[1]); !is(z, 0) || e != api.ErrRange {
				t.Errorf("Of(%d, %d): %v, %v", p[0], p[1], z, e)
			}
		}
	}
}

// refusals tells each call that is handed a wrong number z, also beside another one, and what it answers.
func refusals(z, other complex128, tell func(call string, zero bool, e api.Errno)) {
	two := func(call string, do func(y, z complex128) (complex128, api.Errno)) {
		for _, p := range [][2]complex128{{z, other}, {other, z}, {z, z}} {
			x, e := do(p[0], p[1])
			tell(call, is(x, 0), e)
		}
	}
	two("Add", gauss.Add)
	two("Times", gauss.Times)
	two("GCD", gauss.GCD)
	two("Div", func(y, z complex128) (complex128, api.Errno) {
		q, left, e := gauss.Div(y, z)
		if !is(left, 0) {
			return left, e
		}
		return q, e
	})
	for _, n := range []int{0, 1, 3, -1, math.MaxInt, math.MinInt} {
		two("Toward", func(y, z complex128) (complex128, api.Errno) { return gauss.Toward(y, z, n) })
		x, e := gauss.Turn(z, n)
		tell("Turn", is(x, 0), e)
	}
	re, im, e := gauss.Parts(z)
	tell("Parts", re == 0 && im == 0, e)
	n, e := gauss.Norm(z)
	tell("Norm", n == 0, e)
	k, e := gauss.Octant(z)
	tell("Octant", k == 0, e)
	s, e := gauss.Print(z)
	tell("Print", s == "", e)
}

// P3.1: ErrRange is named first, so a divisor of 0, or a most below 0, comes behind it.
func TestWrongNumbersAreRefused(t *testing.T) {
	for _, z := range wrongNumbers() {
		for _, other := range []complex128{0, complex(negZero, 0), 1, -1, 2, 1i, 0.5, 3 - 4i, last, -last, -z} {
			refusals(z, other, func(call string, zero bool, e api.Errno) {
				if !zero || e != api.ErrRange {
					t.Errorf("%s of %v, beside %v: %v, all else 0: %v", call, z, other, e, zero)
				}
			})
		}
	}
}

// P3.2
func TestAdd(t *testing.T) {
	pairs(slices.Concat(someNumbers(), zeros()), func(y, z complex128) {
		a, b := ints(y)
		c, d := ints(z)
		if x, e := gauss.Add(y, z); !holds(x, e, a+c, b+d) {
			t.Errorf("%v and %v: %v, %v", y, z, x, e)
		}
	})
}

// P3.2
func TestTimes(t *testing.T) {
	pairs(slices.Concat(someNumbers(), square(4), zeros()), func(y, z complex128) {
		a, b := ints(y)
		c, d := ints(z)
		if x, e := gauss.Times(y, z); !holds(x, e, a*c-b*d, a*d+b*c) {
			t.Errorf("%v times %v: %v, %v", y, z, x, e)
		}
	})
}

// P3.2: products of scattered numbers are far from right, up to the last bit that a float has for them.
func TestTimesOfScattered(t *testing.T) {
	right := 0
	pairs(scattered(300), func(y, z complex128) {
		a, b := ints(y)
		c, d := ints(z)
		x, e := gauss.Times(y, z)
		if !holds(x, e, a*c-b*d, a*d+b*c) {
			t.Errorf("%v times %v: %v, %v", y, z, x, e)
		}
		if e == api.OK {
			right++
		}
	})
	if right < 1000 {
		t.Errorf("only %d products were right", right)
	}
}

// P3.2: the first sums and products that are no longer right, in each part, and the last that are.
func TestAddAndTimesAtTheEdge(t *testing.T) {
	for _, c := range []struct {
		y, z         complex128
		sum, product complex128
		e, f         api.Errno
	}{
		{last - 1, 1, last, last - 1, api.OK, api.OK},
		{last, 1, 0, last, api.ErrRange, api.OK},
		{-last, -1, 0, last, api.ErrRange, api.OK},
		{last * 1i, 1i, 0, -last, api.ErrRange, api.OK},
		{-last * 1i, 1i, -last*1i + 1i, last, api.OK, api.OK},
		{-last * 1i, -1i, 0, -last, api.ErrRange, api.OK},
		{1 << 10, 1 << 10, 1 << 11, 0, api.OK, api.ErrRange},
		{1 << 10, -1 << 10, 0, 0, api.OK, api.ErrRange},
		{1 << 10, 1 << 10 * 1i, 1<<10 + 1<<10*1i, 0, api.OK, api.ErrRange},
		{1025, 1023, 2048, last, api.OK, api.OK},
		{1025, -1023i, 1025 - 1023i, -last * 1i, api.OK, api.OK},
		{last + last*1i, 1 + 1i, 0, 0, api.ErrRange, api.ErrRange},
		{last + last*1i, 1, 0, last + last*1i, api.ErrRange, api.OK},
		{1<<19 + 1<<19*1i, 1 - 1i, 1<<19 + 1 + (1<<19-1)*1i, 0, api.OK, api.ErrRange},
		{last + last*1i, last + last*1i, 0, 0, api.ErrRange, api.ErrRange},
	} {
		if x, e := gauss.Add(c.y, c.z); !is(x, c.sum) || e != c.e {
			t.Errorf("%v and %v: %v, %v", c.y, c.z, x, e)
		}
		if x, e := gauss.Times(c.y, c.z); !is(x, c.product) || e != c.f {
			t.Errorf("%v times %v: %v, %v", c.y, c.z, x, e)
		}
	}
}

// turned is the number of these parts times i so many times, with quarters from 0 to 3.
func turned(re, im, quarters int) complex128 {
	for range quarters {
		re, im = -im, re
	}
	return number(re, im)
}

// P3.2
func TestTurn(t *testing.T) {
	for _, z := range slices.Concat(someNumbers(), square(3), zeros()) {
		re, im := ints(z)
		for quarters := -13; quarters <= 13; quarters++ {
			want := turned(re, im, ((quarters%4)+4)%4)
			if x, e := gauss.Turn(z, quarters); !is(x, want) || e != api.OK {
				t.Errorf("Turn(%v, %d): %v, %v", z, quarters, x, e)
			}
		}
	}
}

// P3.2
func TestTurnByVeryMany(t *testing.T) {
	for _, c := range []struct{ quarters, rest int }{
		{math.MaxInt, 3}, {math.MaxInt - 1, 2}, {math.MaxInt - 2, 1}, {math.MaxInt - 3, 0},
		{math.MinInt, 0}, {math.MinInt + 1, 1}, {math.MinInt + 2, 2}, {math.MinInt + 3, 3},
		{1 << 32, 0}, {1<<32 + 1, 1}, {-1<<32 - 1, 3}, {1<<53 + 1, 1}, {1<<62 + 3, 3}, {-1<<62 - 2, 2},
	} {
		for _, z := range []complex128{2 + 1i, -3, last - last*1i, 0} {
			re, im := ints(z)
			if x, e := gauss.Turn(z, c.quarters); !is(x, turned(re, im, c.rest)) || e != api.OK {
				t.Errorf("Turn(%v, %d): %v, %v", z, c.quarters, x, e)
			}
		}
	}
}

// P3.2
func TestNorm(t *testing.T) {
	for _, z := range slices.Concat(someNumbers(), square(20), scattered(2000), zeros()) {
		re, im := ints(z)
		if n, e := gauss.Norm(z); n != re*re+im*im || e != api.OK {
			t.Errorf("Norm(%v): %d, %v", z, n, e)
		}
	}
	if n, _ := gauss.Norm(-last + last*1i); n != 2199019061250 {
		t.Errorf("the greatest Norm: %d", n)
	}
}

// The chapter's examples.
func TestExamples(t *testing.T) {
	if x, e := gauss.Times(3+4i, 1-2i); !is(x, 11-2i) || e != api.OK {
		t.Errorf("Times: %v, %v", x, e)
	}
	if q, left, e := gauss.Div(11-2i, 1-2i); !is(q, 3+4i) || !is(left, 0) || e != api.OK {
		t.Errorf("Div: %v, %v, %v", q, left, e)
	}
	if q, left, e := gauss.Div(7, 2); !is(q, 4) || !is(left, -1) || e != api.OK {
		t.Errorf("Div: %v, %v, %v", q, left, e)
	}
	if d, e := gauss.GCD(11-2i, 5); !is(d, 2+1i) || e != api.OK {
		t.Errorf("GCD: %v, %v", d, e)
	}
	if k, e := gauss.Octant(-3 + 2i); k != 3 || e != api.OK {
		t.Errorf("Octant: %d, %v", k, e)
	}
	if x, e := gauss.Toward(0, 5-1i, 3); !is(x, 3-1i) || e != api.OK {
		t.Errorf("Toward: %v, %v", x, e)
	}
}
