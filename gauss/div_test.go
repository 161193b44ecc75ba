package gauss_test

import (
	"slices"
	"testing"

	"aileron/api"
	"aileron/gauss"
)

// over is y divided by z: both parts as dividends of the divisor n.
func over(y, z complex128) (re, im, n int) {
	a, b := ints(y)
	c, d := ints(z)
	return a*c + b*d, b*c - a*d, c*c + d*d
}

// nearest tells whether q is the whole number nearest to part / n, the greater one of two.
func nearest(q, part, n int) bool {
	return 2*q*n-n <= 2*part && 2*part < 2*q*n+n
}

// divides tells whether d, that is not 0, divides z.
func divides(d, z complex128) bool {
	re, im, n := over(z, d)
	return re%n == 0 && im%n == 0
}

// divided holds what Div tells against the document.
func divided(t *testing.T, y, z complex128) {
	t.Helper()
	q, left, e := gauss.Div(y, z)
	if z == 0 {
		if !is(q, 0) || !is(left, 0) || e != api.ErrNone {
			t.Errorf("%v by %v: %v, %v, %v", y, z, q, left, e)
		}
		return
	}
	re, im, n := over(y, z)
	a, b := ints(q)
	c, d := ints(z)
	g, h := ints(y)
	wantLeft := number(g-(a*c-b*d), h-(a*d+b*c))
	if e != api.OK || !is(q, number(a, b)) || !nearest(a, re, n) || !nearest(b, im, n) || !is(left, wantLeft) {
		t.Errorf("%v by %v: %v, %v, %v", y, z, q, left, e)
	}
}

// P3.3
func TestDivOfAllSmallNumbers(t *testing.T) {
	pairs(square(8), func(y, z complex128) { divided(t, y, z) })
}

// P3.3
func TestDivOfSomeNumbers(t *testing.T) {
	pairs(slices.Concat(someNumbers(), zeros()), func(y, z complex128) { divided(t, y, z) })
	pairs(scattered(400), func(y, z complex128) { divided(t, y, z) })
}

// P3.3: great numbers by 2 and by 1+i, and by ones whose quotient lies just beside the half-way.
func TestDivNearHalfWay(t *testing.T) {
	for near := last - 40; near <= last; near++ {
		for _, y := range []complex128{number(near, -near), number(-near, near), number(near, last), number(near-1, -near), number(near/2, -near/2-1)} {
			for _, z := range []complex128{1, -1, 1i, 2, -2i, 1 + 1i, -1 - 1i, 2 - 4i, number(near, 0), number(near, near), number(last, -near), number(0, -last), number(2-last, last)} {
				divided(t, y, z)
			}
		}
	}
}

// P3.3: quotients that lie half-way go up, in each part, also below 0.
func TestDivHalfWay(t *testing.T) {
	for _, c := range []struct{ y, z, q, left complex128 }{
		{1, 2, 1, -1}, {-1, 2, 0, -1}, {3, 2, 2, -1}, {-3, 2, -1, -1}, {7, 2, 4, -1}, {-7, 2, -3, -1}, {7, -2, -3, 1}, {-7, -2, 4, 1},
		{1i, 2, 1i, -1i}, {-1i, 2, 0, -1i}, {7i, 2, 4i, -1i}, {-7i, 2, -3i, -1i},
		{1 + 1i, 2, 1 + 1i, -1 - 1i}, {-1 - 1i, 2, 0, -1 - 1i}, {1 - 1i, 2, 1, -1 - 1i}, {-1 + 1i, 2, 1i, -1 - 1i},
		{1, 1 + 1i, 1, -1i}, {-1, 1 + 1i, 1i, -1i}, {1i, 1 + 1i, 1 + 1i, -1i}, {-1i, 1 + 1i, 0, -1i},
		{5, 3 + 1i, 2, -1 - 2i}, {2, 4i, 0, 2}, {-2, 4i, 1i, 2}, {6 - 2i, 4, 2, -2 - 2i}, {-6 - 2i, 4, -1, -2 - 2i},
		{last, 2, (last + 1) / 2, -1}, {-last, 2, -(last - 1) / 2, -1}, {last * 1i, -2, -(last - 1) / 2 * 1i, 1i},
	} {
		if q, left, e := gauss.Div(c.y, c.z); !is(q, c.q) || !is(left, c.left) || e != api.OK {
			t.Errorf("%v by %v: %v, %v, %v", c.y, c.z, q, left, e)
		}
	}
}

// P3.3
func TestDivByNought(t *testing.T) {
	for _, z := range zeros() {
		for _, y := range slices.Concat(someNumbers(), zeros()) {
			divided(t, y, z)
		}
		for _, y := range wrongNumbers() {
			if q, left, e := gauss.Div(y, z); !is(q, 0) || !is(left, 0) || e != api.ErrRange {
				t.Errorf("%v by %v: %v, %v, %v", y, z, q, left, e)
			}
		}
	}
}

// greatest is the GCD, found among all numbers of a square.
func greatest(y, z complex128, among []complex128) complex128 {
	best, most := complex128(0), 0
	for _, d := range among {
		re, im := ints(d)
		if re <= 0 || im < 0 || re*re+im*im <= most {
			continue
		}
		if divides(d, y) && divides(d, z) {
			best, most = d, re*re+im*im
		}
	}
	return best
}

// P3.3
func TestGCDOfAllSmallNumbers(t *testing.T) {
	// A divisor's Norm is no greater, so its parts are less than one and a half times as great.
	among := square(9)
	pairs(square(6), func(y, z complex128) {
		if y == 0 && z == 0 {
			return
		}
		want := greatest(y, z, among)
		if d, e := gauss.GCD(y, z); !is(d, want) || e != api.OK {
			t.Errorf("GCD(%v, %v): %v, %v, not %v", y, z, d, e, want)
		}
	})
}

// P3.3: a number and 0, in each quarter and on its edges.
func TestGCDWithNought(t *testing.T) {
	for _, first := range []complex128{1, 2, 1 + 1i, 2 + 1i, 1 + 2i, 5 + 3i, last, 1 + last*1i, last + 1i, last + last*1i, last + (last-1)*1i} {
		re, im := ints(first)
		for quarters := range 4 {
			z := turned(re, im, quarters)
			for _, zero := range zeros() {
				for _, p := range [][2]complex128{{z, zero}, {zero, z}, {z, z}, {z, -z}} {
					if d, e := gauss.GCD(p[0], p[1]); !is(d, first) || e != api.OK {
						t.Errorf("GCD(%v, %v): %v, %v", p[0], p[1], d, e)
					}
				}
			}
		}
	}
}

// P3.3
func TestGCDOfNoughts(t *testing.T) {
	pairs(zeros(), func(y, z complex128) {
		if d, e := gauss.GCD(y, z); !is(d, 0) || e != api.ErrNone {
			t.Errorf("GCD(%v, %v): %v, %v", y, z, d, e)
		}
	})
}

// P3.3: what two numbers without a common divisor are both multiplied by is the GCD of the products.
func TestGCDOfMultiples(t *testing.T) {
	for _, c := range []struct{ y, z complex128 }{
		{7, 5}, {3, 2}, {1, last}, {2 + 1i, 2 - 1i}, {3 + 2i, 2 + 3i}, {-1i, 1 + 1i}, {13 - 8i, 8 + 5i}, {1 + 1i, 3}, {-89, 55}, {4 - 1i, -9},
	} {
		for _, d := range square(7) {
			re, im := ints(d)
			y, z := d*c.y, d*c.z
			if re <= 0 || im < 0 || !gauss.May(y) || !gauss.May(z) {
				continue
			}
			if got, e := gauss.GCD(y, z); !is(got, d) || e != api.OK {
				t.Errorf("GCD(%v, %v): %v, %v, not %v", y, z, got, e, d)
			}
			if got, e := gauss.GCD(z, y); !is(got, d) || e != api.OK {
				t.Errorf("GCD(%v, %v): %v, %v, not %v", z, y, got, e, d)
			}
		}
	}
}

// P3.3, P3.6
func TestGCDOfSomeNumbers(t *testing.T) {
	look := func(y, z complex128) {
		d, e := gauss.GCD(y, z)
		if y == 0 && z == 0 {
			return
		}
		if e != api.OK || !gauss.May(d) || real(d) <= 0 || imag(d) < 0 || !divides(d, y) || !divides(d, z) {
			t.Errorf("GCD(%v, %v): %v, %v", y, z, d, e)
		}
	}
	pairs(someNumbers(), look)
	pairs(scattered(400), look)
}
