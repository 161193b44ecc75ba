package gauss_test

import (
	"slices"
	"testing"

	"aileron/api"
	"aileron/gauss"
)

// P3.6: here the calls are held against each other alone.

// many are numbers of all sizes.
func many() []complex128 {
	return slices.Concat(square(3), someNumbers(), scattered(150))
}

// normOf is the Norm of a right number.
func normOf(t *testing.T, z complex128) int {
	t.Helper()
	n, e := gauss.Norm(z)
	if e != api.OK {
		t.Errorf("Norm(%v): %v", z, e)
	}
	return n
}

func TestSumsAndProductsGoEitherWay(t *testing.T) {
	pairs(many(), func(y, z complex128) {
		a, e := gauss.Add(y, z)
		b, f := gauss.Add(z, y)
		if !is(a, b) || e != f {
			t.Errorf("%v and %v: %v, %v, or %v, %v", y, z, a, e, b, f)
		}
		a, e = gauss.Times(y, z)
		b, f = gauss.Times(z, y)
		if !is(a, b) || e != f {
			t.Errorf("%v times %v: %v, %v, or %v, %v", y, z, a, e, b, f)
		}
	})
}

func TestNormOfAProduct(t *testing.T) {
	products := 0
	pairs(many(), func(y, z complex128) {
		x, e := gauss.Times(y, z)
		if e != api.OK {
			return
		}
		products++
		if normOf(t, x) != normOf(t, y)*normOf(t, z) {
			t.Errorf("%v times %v is %v, with a Norm of %d", y, z, x, normOf(t, x))
		}
	})
	if products < 10000 {
		t.Errorf("only %d products", products)
	}
}

func TestWhatIsDivided(t *testing.T) {
	whole := 0
	pairs(many(), func(y, z complex128) {
		q, left, e := gauss.Div(y, z)
		if z == 0 {
			return
		}
		if e != api.OK || 2*normOf(t, left) > normOf(t, z) {
			t.Errorf("%v by %v: %v, %v, %v", y, z, q, left, e)
		}
		// The quotient times may be beyond what is right, though what is divided is not.
		x, e := gauss.Times(q, z)
		if e != api.OK {
			return
		}
		whole++
		if back, e := gauss.Add(x, left); !is(back, y) || e != api.OK {
			t.Errorf("%v by %v: %v, and %v is left", y, z, q, left)
		}
	})
	if whole < 10000 {
		t.Errorf("only %d were put together again", whole)
	}
}

func TestGCDDividesBoth(t *testing.T) {
	pairs(many(), func(y, z complex128) {
		d, e := gauss.GCD(y, z)
		if y == 0 && z == 0 {
			return
		}
		_, left, f := gauss.Div(y, d)
		_, other, g := gauss.Div(z, d)
		if e != api.OK || f != api.OK || g != api.OK || left != 0 || other != 0 {
			t.Errorf("GCD(%v, %v): %v, %v; %v and %v are left", y, z, d, e, left, other)
		}
		if again, e := gauss.GCD(z, y); !is(again, d) || e != api.OK {
			t.Errorf("GCD(%v, %v): %v; the other way round: %v, %v", y, z, d, again, e)
		}
	})
}

func TestAllThatDividesBothDividesTheGCD(t *testing.T) {
	divisors := slices.DeleteFunc(square(9), func(z complex128) bool { return z == 0 })
	look := func(y, z complex128) {
		d, _ := gauss.GCD(y, z)
		for _, x := range divisors {
			if divides(x, y) && divides(x, z) && !divides(x, d) {
				t.Errorf("%v divides %v and %v, not their GCD %v", x, y, z, d)
			}
		}
	}
	pairs(square(6), look)
	pairs(scattered(100), func(y, z complex128) { look(number(int(real(y))/720*720, 0), z) })
	pairs(someNumbers()[:120], look)
}

func TestFourQuartersAreNone(t *testing.T) {
	for _, z := range many() {
		x := z
		for range 4 {
			x, _ = gauss.Turn(x, 1)
		}
		if !is(x, z) {
			t.Errorf("%v, four times turned, is %v", z, x)
		}
		for a := -5; a <= 5; a++ {
			for b := -5; b <= 5; b++ {
				x, _ := gauss.Turn(z, a)
				x, _ = gauss.Turn(x, b)
				if y, e := gauss.Turn(z, a+b); !is(x, y) || e != api.OK {
					t.Errorf("%v, turned by %d and %d: %v, not %v", z, a, b, x, y)
				}
			}
			x, _ := gauss.Turn(z, a)
			if y, e := gauss.Turn(z, a+4); !is(x, y) || e != api.OK {
				t.Errorf("%v, turned by %d: %v, and by four more: %v", z, a, x, y)
			}
		}
	}
}

func TestAQuarterIsTwoEighths(t *testing.T) {
	for _, z := range many() {
		if z == 0 {
			continue
		}
		k, _ := gauss.Octant(z)
		for quarters := range 9 {
			x, _ := gauss.Turn(z, quarters)
			if got, e := gauss.Octant(x); got != (k+2*quarters)%8 || e != api.OK {
				t.Errorf("%v lies in eighth %d, turned by %d in eighth %d", z, k, quarters, got)
			}
		}
	}
}
