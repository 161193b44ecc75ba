package gauss_test

import (
	"math"
	"slices"
	"testing"

	"aileron/api"
	"aileron/gauss"
)

// edges are where the eighths begin, in order.
var edges = [8][2]int{{1, 0}, {1, 1}, {0, 1}, {-1, 1}, {-1, 0}, {-1, -1}, {0, -1}, {1, -1}}

// eighth is the one in whose wedge a number that is not 0 lies.
func eighth(re, im int) int {
	for k, edge := range edges {
		next := edges[(k+1)%8]
		if edge[0]*im-edge[1]*re >= 0 && re*next[1]-im*next[0] > 0 {
			return k
		}
	}
	return -1
}

// P3.4
func TestOctant(t *testing.T) {
	for _, z := range slices.Concat(someNumbers(), square(15), scattered(2000)) {
		if z == 0 {
			continue
		}
		if k, e := gauss.Octant(z); k != eighth(ints(z)) || e != api.OK {
			t.Errorf("Octant(%v): %d, %v", z, k, e)
		}
	}
}

// P3.4: each eighth's first edge is its own; what is beside it by the least there is lies on either side.
func TestOctantEdges(t *testing.T) {
	for k, edge := range edges {
		for _, far := range []int{1, 2, 1000, last - 1, last} {
			re, im := far*edge[0], far*edge[1]
			if got, e := gauss.Octant(number(re, im)); got != k || e != api.OK {
				t.Errorf("Octant(%d, %d): %d, %v, not %d", re, im, got, e, k)
			}
		}
	}
	const a, b = last, last - 1
	for k, z := range []complex128{a + b*1i, b + a*1i, -1 + a*1i, -a + b*1i, -a - 1i, -b - a*1i, 1 - a*1i, a - b*1i} {
		if got, e := gauss.Octant(z); got != k || e != api.OK {
			t.Errorf("Octant(%v): %d, %v, not %d", z, got, e, k)
		}
	}
	for k, z := range []complex128{a + 1i, 1 + a*1i, -b + a*1i, -a + 1i, -a - b*1i, -1 - a*1i, b - a*1i, a - 1i} {
		if got, e := gauss.Octant(z); got != k || e != api.OK {
			t.Errorf("Octant(%v): %d, %v, not %d", z, got, e, k)
		}
	}
}

// P3.4, R2: a -0 is a 0.
func TestOctantWithNegativeZero(t *testing.T) {
	for _, z := range zeros() {
		if k, e := gauss.Octant(z); k != 0 || e != api.ErrNone {
			t.Errorf("Octant(%v): %d, %v", z, k, e)
		}
	}
	for want, z := range map[int]complex128{0: complex(3, negZero), 2: complex(negZero, 3), 4: complex(-3, negZero), 6: complex(negZero, -3)} {
		if k, e := gauss.Octant(z); k != want || e != api.OK {
			t.Errorf("Octant(%v): %d, %v", z, k, e)
		}
	}
}

// nearer is a part, brought nearer to another one.
func nearer(from, to, most int) int {
	switch {
	case to > from && to-from > most:
		return from + most
	case to < from && from-to > most:
		return from - most
	}
	return to
}

// P3.4
func TestToward(t *testing.T) {
	mosts := []int{0, 1, 2, 3, 1000, 1 << 19, last, last + 1, 2*last - 1, 2 * last, 2*last + 1, 1 << 32, 1<<53 + 1, 1 << 62, math.MaxInt - 1, math.MaxInt}
	pairs(slices.Concat(someNumbers(), zeros()), func(y, z complex128) {
		a, b := ints(y)
		c, d := ints(z)
		for _, most := range mosts {
			want := number(nearer(a, c, most), nearer(b, d, most))
			if x, e := gauss.Toward(y, z, most); !is(x, want) || e != api.OK {
				t.Errorf("Toward(%v, %v, %d): %v, %v", y, z, most, x, e)
			}
		}
	})
}

// P3.4
func TestTowardOfAllSmallNumbers(t *testing.T) {
	pairs(square(4), func(y, z complex128) {
		a, b := ints(y)
		c, d := ints(z)
		for most := range 10 {
			want := number(nearer(a, c, most), nearer(b, d, most))
			if x, e := gauss.Toward(y, z, most); !is(x, want) || e != api.OK {
				t.Errorf("Toward(%v, %v, %d): %v, %v", y, z, most, x, e)
			}
		}
	})
}

// P3.4
func TestTowardByLessThanNought(t *testing.T) {
	for _, most := range []int{-1, -2, -1 << 20, -1 << 53, math.MinInt + 1, math.MinInt} {
		for _, z := range []complex128{0, 1, 3 - 4i, -last, last * 1i} {
			for _, y := range []complex128{0, z, -z} {
				if x, e := gauss.Toward(y, z, most); !is(x, 0) || e != api.ErrRange {
					t.Errorf("Toward(%v, %v, %d): %v, %v", y, z, most, x, e)
				}
			}
		}
	}
}
