package codec_test

import (
	"math"
	"math/big"
	"slices"
	"testing"

	"aileron/api"
	"aileron/codec"
)

const greatest = math.MaxUint64

var negZero = math.Copysign(0, -1)

// number is the value of a number.
func number(n int64) codec.Value { return codec.Value{N: n} }

// complexes is the value of a Point.
func complexes(re, im float64) codec.Value { return codec.Value{Z: complex(re, im)} }

// edges are the least and the greatest value of a part that is no Point.
func edges(p codec.Part) (*big.Int, *big.Int) {
	power := func(n int) *big.Int { return new(big.Int).Lsh(big.NewInt(1), uint(n)) }
	if p.Kind == codec.Whole {
		return new(big.Int).Neg(power(p.Len - 1)), new(big.Int).Sub(power(p.Len-1), big.NewInt(1))
	}
	return new(big.Int), new(big.Int).Sub(power(p.Len), big.NewInt(1))
}

// pointParts are parts of a Point's value: the least, the greatest, and some between.
var pointParts = []float64{0, 1, -1, 2, -2, 3, 255, -256, 65536, -65537, 1 << 30, -1 << 30, math.MaxInt32 - 1, math.MaxInt32, math.MinInt32 + 1, math.MinInt32}

// wrongPointParts are parts that no Point's value has: one beyond, far beyond, not whole, infinite, and no number.
var wrongPointParts = []float64{
	1 << 31, -1<<31 - 1, 1<<31 + 1, 1 << 32, -1 << 32, 1<<32 + 1, 1 << 53, 1 << 62, 1 << 63, -1 << 63, 1 << 64, -1 << 64, 1e300, math.MaxFloat64, -math.MaxFloat64,
	0.5, -0.5, 1.5, -2.25, 1e-9, math.SmallestNonzeroFloat64, -math.SmallestNonzeroFloat64, math.Nextafter(1, 0), math.Nextafter(1, 2),
	math.MaxInt32 + 0.5, math.MaxInt32 - 0.5, math.MinInt32 - 0.5, math.MinInt32 + 0.5, math.Nextafter(math.MaxInt32, 1e99), math.Nextafter(math.MinInt32, -1e99), math.Nextafter(1<<31, 0),
	math.Inf(1), math.Inf(-1), math.NaN(),
}

// someValues are right values of a part: the least, the greatest, and some between.
func someValues(p codec.Part) []codec.Value {
	var l []codec.Value
	if p.Kind == codec.Point {
		for _, re := range pointParts {
			for _, im := range pointParts {
				l = append(l, complexes(re, im))
			}
		}
		return l
	}
	least, most := edges(p)
	for _, n := range []int64{least.Int64(), least.Int64() + 1, most.Int64() - 1, most.Int64(), 0, 1, -1, 2, -2, 5, most.Int64() / 2, least.Int64() / 2, most.Int64() / 3} {
		if x := big.NewInt(n); x.Cmp(least) >= 0 && x.Cmp(most) <= 0 {
			l = append(l, number(n))
		}
	}
	return l
}

// beyond are values that a part has not: one beyond each edge, and some far off.
func beyond(p codec.Part) []codec.Value {
	var l []codec.Value
	if p.Kind == codec.Point {
		for _, x := range wrongPointParts {
			l = append(l, complexes(x, 0), complexes(0, x), complexes(x, x), complexes(x, 3), complexes(math.MinInt32, x), complexes(x, negZero), complexes(math.NaN(), x))
		}
		return l
	}
	least, most := edges(p)
	far := []*big.Int{new(big.Int).Sub(least, big.NewInt(1)), new(big.Int).Add(most, big.NewInt(1))}
	for _, n := range []int64{math.MinInt64, math.MinInt64 + 1, math.MaxInt64, -1, -2, 2, 1 << 32, -1 << 32, 1 << 62} {
		far = append(far, big.NewInt(n))
	}
	for _, x := range far {
		if x.IsInt64() && (x.Cmp(least) < 0 || x.Cmp(most) > 0) {
			l = append(l, number(x.Int64()))
		}
	}
	return l
}

// tooMany are values with an N or a Z that the part may not have; some are beyond it as well.
func tooMany(p codec.Part) []codec.Value {
	var l []codec.Value
	if p.Kind == codec.Point {
		for _, n := range []int64{1, -1, math.MaxInt64, math.MinInt64, 1 << 32} {
			l = append(l, number(n), codec.Value{N: n, Z: 3 - 2i}, codec.Value{N: n, Z: complex(0.5, 0)}, codec.Value{N: n, Z: complex(0, math.NaN())})
		}
		return l
	}
	for _, z := range []complex128{1, 1i, -1i, 3 - 2i, complex(0, 0.5), complex(math.SmallestNonzeroFloat64, 0), complex(math.NaN(), 0), complex(0, math.NaN()), complex(math.Inf(1), 0), complex(0, math.Inf(-1))} {
		for _, n := range []int64{0, 1, -1, math.MaxInt64, math.MinInt64} {
			l = append(l, codec.Value{N: n, Z: z})
		}
	}
	return l
}

// partBits are the bits that a right value has, the lowest one first.
func partBits(p codec.Part, v codec.Value) []bool {
	signed := func(n int64, len int) []bool {
		l := make([]bool, len)
		for k := range l {
			l[k] = n>>k&1 == 1
		}
		return l
	}
	if p.Kind == codec.Point {
		return append(signed(int64(real(v.Z)), 32), signed(int64(imag(v.Z)), 32)...)
	}
	return signed(v.N, p.Len)
}

// record is the words of right values, bit by bit.
func record(l []codec.Part, v []codec.Value) []uint64 {
	at, n := places(l)
	w := make([]uint64, n)
	for i, p := range l {
		for k, on := range partBits(p, v[i]) {
			if on {
				w[at[i][0]] |= 1 << (at[i][1] + k)
			}
		}
	}
	return w
}

// scatteredValues are right values of parts.
func scatteredValues(l []codec.Part, s *source) []codec.Value {
	v := make([]codec.Value, len(l))
	for i, p := range l {
		some := someValues(p)
		v[i] = some[s.below(len(some))]
	}
	return v
}

// same tells whether values are those to the last bit: a 0 that is below 0 is none.
func same(u, v []codec.Value) bool {
	return slices.EqualFunc(u, v, func(a, b codec.Value) bool {
		return a.N == b.N && math.Float64bits(real(a.Z)) == math.Float64bits(real(b.Z)) && math.Float64bits(imag(a.Z)) == math.Float64bits(imag(b.Z))
	})
}

// both looks at the record of values, and at the values of that record.
func both(t *testing.T, l []codec.Part, v []codec.Value) {
	t.Helper()
	want := record(l, v)
	w, e := codec.Encode(l, v)
	if e != api.OK || !slices.Equal(w, want) {
		t.Errorf("Encode(%v, %v): %x, %v, not %x", l, v, w, e, want)
	}
	if u, e := codec.Decode(l, want); e != api.OK || !same(u, v) {
		t.Errorf("Decode(%v, %x): %v, %v, not %v", l, want, u, e, v)
	}
}

// P4.2, P4.3
func TestEachValueOfEachPart(t *testing.T) {
	for _, p := range allParts() {
		for _, v := range someValues(p) {
			both(t, row(p), []codec.Value{v})
			both(t, row(flag, p, flag), []codec.Value{number(1), v, number(1)})
			both(t, row(count(7), p, p), []codec.Value{number(127), v, v})
		}
	}
}

// P4.2, P4.3
func TestRowsOfValues(t *testing.T) {
	s := source(42)
	for _, l := range someRows() {
		for range 5 {
			both(t, l, scatteredValues(l, &s))
		}
	}
}

// P4.2, P4.3: the model above, held against records that are written out.
func TestRecordsWrittenOut(t *testing.T) {
	for _, c := range []struct {
		l []codec.Part
		v []codec.Value
		w []uint64
	}{
		{row(flag), []codec.Value{number(1)}, []uint64{1}},
		{row(count(63)), []codec.Value{number(math.MaxInt64)}, []uint64{1<<63 - 1}},
		{row(whole(64)), []codec.Value{number(math.MinInt64)}, []uint64{1 << 63}},
		{row(whole(64)), []codec.Value{number(-1)}, []uint64{greatest}},
		{row(whole(2), whole(2)), []codec.Value{number(-2), number(1)}, []uint64{6}},
		{row(point), []codec.Value{complexes(-1, 0)}, []uint64{0xffffffff}},
		{row(point), []codec.Value{complexes(0, -1)}, []uint64{0xffffffff00000000}},
		{row(point), []codec.Value{complexes(math.MinInt32, math.MaxInt32)}, []uint64{0x7fffffff80000000}},
		{row(count(63), whole(2)), []codec.Value{number(1), number(-1)}, []uint64{1, 3}},
		{row(count(62), whole(2), flag), []codec.Value{number(1), number(-2), number(1)}, []uint64{1<<63 | 1, 1}},
		{row(flag, count(7), point), []codec.Value{number(1), number(5), complexes(3, -2)}, []uint64{11, 18446744065119617027}},
	} {
		if w, e := codec.Encode(c.l, c.v); e != api.OK || !slices.Equal(w, c.w) {
			t.Errorf("Encode(%v, %v): %x, %v", c.l, c.v, w, e)
		}
		if v, e := codec.Decode(c.l, c.w); e != api.OK || !same(v, c.v) {
			t.Errorf("Decode(%v, %x): %v, %v", c.l, c.w, v, e)
		}
	}
}

// P4.2: a 0 below 0 is 0, of a Point and of a Z that has to be 0.
func TestMinusNought(t *testing.T) {
	for _, z := range []complex128{complex(negZero, 0), complex(0, negZero), complex(negZero, negZero)} {
		l := row(flag, count(7), whole(8), point)
		w, e := codec.Encode(l, []codec.Value{{N: 1, Z: z}, {N: 5, Z: z}, {N: -1, Z: z}, {Z: z}})
		if e != api.OK || !slices.Equal(w, []uint64{1 | 5<<1 | 255<<8, 0}) {
			t.Errorf("%v: %x, %v", z, w, e)
		}
	}
	if w, e := codec.Encode(row(point), []codec.Value{complexes(negZero, -7)}); e != api.OK || !slices.Equal(w, []uint64{0xfffffff900000000}) {
		t.Errorf("%x, %v", w, e)
	}
	if v, e := codec.Decode(row(point), []uint64{0}); e != api.OK || !same(v, []codec.Value{{}}) {
		t.Errorf("%v, %v", v, e)
	}
}

// refused looks at values that are refused by themselves, behind right ones and ahead of them.
func refused(t *testing.T, p codec.Part, v codec.Value, want api.Errno) {
	t.Helper()
	for _, c := range []struct {
		l []codec.Part
		v []codec.Value
	}{
		{row(p), []codec.Value{v}},
		{row(flag, p), []codec.Value{number(1), v}},
		{row(p, point), []codec.Value{v, complexes(3, -2)}},
	} {
		if w, e := codec.Encode(c.l, c.v); len(w) != 0 || e != want {
			t.Errorf("Encode(%v, %v): %x, %v, not %v", c.l, c.v, w, e, want)
		}
	}
}

// P4.2
func TestValuesBeyondTheirPart(t *testing.T) {
	for _, p := range allParts() {
		for _, v := range beyond(p) {
			refused(t, p, v, api.ErrRange)
		}
	}
}

// P4.2: the error is ErrArg, though the value may be beyond its part, too.
func TestValuesWithTooMuch(t *testing.T) {
	for _, p := range allParts() {
		for _, v := range tooMany(p) {
			refused(t, p, v, api.ErrArg)
		}
	}
}

// P4.2: of two values that are wrong the first one is told.
func TestTheFirstWrongValue(t *testing.T) {
	for _, p := range allParts() {
		for _, q := range []codec.Part{flag, count(7), whole(2), point} {
			far, much := beyond(p), tooMany(q)
			if len(far) == 0 { // a Whole of 64 bits has all numbers
				continue
			}
			for _, v := range far[:2] {
				for _, u := range much {
					if w, e := codec.Encode(row(p, q), []codec.Value{v, u}); len(w) != 0 || e != api.ErrRange {
						t.Errorf("Encode(%v %v, %v %v): %x, %v", p, q, v, u, w, e)
					}
					if w, e := codec.Encode(row(q, p), []codec.Value{u, v}); len(w) != 0 || e != api.ErrArg {
						t.Errorf("Encode(%v %v, %v %v): %x, %v", q, p, u, v, w, e)
					}
				}
			}
		}
	}
}

// P4.2: however many there are, and whatever is wrong with them.
func TestTooFewAndTooManyValues(t *testing.T) {
	for _, l := range someRows() {
		for _, n := range []int{0, 1, len(l) - 1, len(l) + 1, 2 * len(l), 256, 257, 1000} {
			if n == len(l) {
				continue
			}
			for _, v := range []codec.Value{{}, {N: -1, Z: 1}, {Z: complex(0.5, 0)}} {
				if w, e := codec.Encode(l, slices.Repeat([]codec.Value{v}, n)); len(w) != 0 || e != api.ErrWidth {
					t.Errorf("%d values of %d parts: %x, %v", n, len(l), w, e)
				}
			}
		}
	}
}

// P4.3: however many there are, and whatever bits are 1.
func TestTooFewAndTooManyWords(t *testing.T) {
	for _, l := range someRows() {
		_, words := places(l)
		for _, n := range []int{0, 1, words - 1, words + 1, len(l), 63, 64, 65, 1000} {
			if n == words {
				continue
			}
			for _, w := range []uint64{0, 1, greatest} {
				if v, e := codec.Decode(l, slices.Repeat([]uint64{w}, n)); len(v) != 0 || e != api.ErrWidth {
					t.Errorf("%d words of %d: %v, %v", n, words, v, e)
				}
			}
		}
	}
}

// mask is the words in which the bits of parts are 1.
func mask(l []codec.Part) []uint64 {
	at, n := places(l)
	w := make([]uint64, n)
	for i, p := range l {
		for k := range p.Len {
			w[at[i][0]] |= 1 << (at[i][1] + k)
		}
	}
	return w
}

// P4.3: each bit, by itself and beside all that may be 1.
func TestABitThatIsNoParts(t *testing.T) {
	for _, l := range slices.Concat(someRows()[:40], scattered(40)) {
		full := mask(l)
		if v, e := codec.Decode(l, full); e != api.OK || len(v) != len(l) {
			t.Errorf("%v of all bits: %v, %v", l, v, e)
		}
		for i := range full {
			for k := range 64 {
				for _, w := range [][]uint64{make([]uint64, len(full)), slices.Clone(full)} {
					w[i] |= 1 << k
					v, e := codec.Decode(l, w)
					if full[i]>>k&1 == 0 && (len(v) != 0 || e != api.ErrForm) || full[i]>>k&1 == 1 && e != api.OK {
						t.Errorf("Decode(%v, %x): %v, %v", l, w, v, e)
					}
				}
			}
		}
	}
}

// The chapter's example.
func TestExampleValues(t *testing.T) {
	l := row(flag, count(7), point)
	at, n, e := codec.Places(l)
	if e != api.OK || n != 2 || !slices.Equal(at, [][2]int{{0, 0}, {0, 1}, {1, 0}}) {
		t.Error(at, n, e)
	}
	w, e := codec.Encode(l, []codec.Value{{N: 1}, {N: 5}, {Z: 3 - 2i}})
	if e != api.OK || !slices.Equal(w, []uint64{11, 18446744065119617027}) {
		t.Error(w, e)
	}
	v, e := codec.Decode(l, w)
	if e != api.OK || !slices.Equal(v, []codec.Value{{N: 1}, {N: 5}, {Z: 3 - 2i}}) {
		t.Error(v, e)
	}
}
