package bits_test

import (
	"math"
	"math/big"
	"slices"
	"testing"

	"aileron/api"
	"aileron/bits"
)

const greatest = math.MaxUint64

// someWords are words in which each bit, and each neighbour of one, is now 0 and now 1.
var someWords = []uint64{
	0, 1, 1 << 63, greatest, greatest - 1, 1<<63 - 1, 0xabcd,
	0x5555555555555555, 0xaaaaaaaaaaaaaaaa, 0xf0f0f0f0f0f0f0f0,
	0x00000000ffffffff, 0xffffffff00000000, 0x123456789abcdef0, 0x9e3779b97f4a7c15,
}

// noFields may not be: by where they begin, by how long they are, by where they end.
var noFields = []bits.Field{
	{}, {At: 0, Len: 0}, {At: 5, Len: 0}, {At: 63, Len: 0}, {At: 0, Len: -1}, {At: 63, Len: -1}, {At: 40, Len: -40},
	{At: 0, Len: 65}, {At: 0, Len: 66}, {At: 0, Len: 128},
	{At: -1, Len: 1}, {At: -1, Len: 2}, {At: -1, Len: 64}, {At: -1, Len: 65}, {At: -64, Len: 64}, {At: -3, Len: -3},
	{At: 64, Len: 0}, {At: 64, Len: 1}, {At: 64, Len: -1}, {At: 65, Len: -1}, {At: 128, Len: 1},
	{At: 1, Len: 64}, {At: 63, Len: 2}, {At: 63, Len: 64}, {At: 60, Len: 5}, {At: 32, Len: 33},
	{At: 0, Len: math.MaxInt}, {At: 1, Len: math.MaxInt}, {At: 63, Len: math.MaxInt},
	{At: math.MaxInt, Len: 1}, {At: math.MaxInt, Len: 64}, {At: math.MaxInt, Len: math.MaxInt},
	{At: 0, Len: math.MinInt}, {At: 63, Len: math.MinInt}, {At: math.MinInt, Len: 1}, {At: math.MinInt, Len: 64},
	{At: math.MinInt, Len: math.MinInt}, {At: math.MinInt, Len: math.MaxInt}, {At: math.MaxInt, Len: math.MinInt},
	{At: 1 << 32, Len: 1}, {At: 0, Len: 1<<32 + 1}, {At: 256, Len: 8}, {At: 0, Len: 256 + 8},
}

// eachField goes through all fields that may be.
func eachField(do func(f bits.Field)) {
	for at := range 64 {
		for n := 1; n <= 64-at; n++ {
			do(bits.Field{At: at, Len: n})
		}
	}
}

// number is a field's number, bit by bit; the highest bit counts what top says.
func number(f bits.Field, w uint64, top int64) *big.Int {
	sum := new(big.Int)
	for k := range f.Len {
		counts := new(big.Int).Lsh(big.NewInt(1), uint(k))
		if k == f.Len-1 {
			counts.Mul(counts, big.NewInt(top))
		}
		if w>>(f.At+k)&1 == 1 {
			sum.Add(sum, counts)
		}
	}
	return sum
}

// laid is a word in which a field's bits are the lowest ones of x, bit by bit, and all other bits are as they were.
func laid(f bits.Field, w, x uint64) uint64 {
	for k := range f.Len {
		w &^= 1 << (f.At + k)
		w |= x >> k & 1 << (f.At + k)
	}
	return w
}

// power is 2 to the n, and so many more.
func power(n int, more int64) *big.Int {
	x := new(big.Int).Lsh(big.NewInt(1), uint(n))
	return x.Add(x, big.NewInt(more))
}

// P2.1
func TestMayOfAll(t *testing.T) {
	for at := -70; at <= 130; at++ {
		for n := -70; n <= 130; n++ {
			want := at >= 0 && at <= 63 && n >= 1 && n <= 64 && at+n <= 64
			if f := (bits.Field{At: at, Len: n}); f.May() != want {
				t.Errorf("%v: May is %v", f, f.May())
			}
		}
	}
}

// P2.1
func TestFieldsThatMayNotBeTellNought(t *testing.T) {
	for _, f := range noFields {
		if f.May() || f.Max() != 0 {
			t.Errorf("%v: May %v, Max %d", f, f.May(), f.Max())
		}
		for _, w := range someWords {
			if f.Get(w) != 0 || f.Signed(w) != 0 {
				t.Errorf("%v of %#x: Get %d, Signed %d", f, w, f.Get(w), f.Signed(w))
			}
		}
	}
}

// P2.1
func TestMax(t *testing.T) {
	eachField(func(f bits.Field) {
		if want := power(f.Len, -1); f.Max() != want.Uint64() || !want.IsUint64() {
			t.Errorf("%v: Max %d, not %v", f, f.Max(), want)
		}
	})
}

// P2.1
func TestGetAndSigned(t *testing.T) {
	eachField(func(f bits.Field) {
		for _, w := range someWords {
			if want := number(f, w, 1); f.Get(w) != want.Uint64() {
				t.Errorf("%v of %#x: Get %d, not %v", f, w, f.Get(w), want)
			}
			if want := number(f, w, -1); f.Signed(w) != want.Int64() {
				t.Errorf("%v of %#x: Signed %d, not %v", f, w, f.Signed(w), want)
			}
		}
	})
}

// P2.1: a field of one bit has the signed numbers 0 and -1, one of all bits those of an int64.
func TestSignedOfOneBitAndOfAll(t *testing.T) {
	for at := range 64 {
		f := bits.Field{At: at, Len: 1}
		if f.Signed(0) != 0 || f.Signed(1<<at) != -1 || f.Signed(^(uint64(1)<<at)) != 0 {
			t.Errorf("%v: %d, %d, %d", f, f.Signed(0), f.Signed(1<<at), f.Signed(^(uint64(1) << at)))
		}
	}
	whole := bits.Field{At: 0, Len: 64}
	for _, x := range []int64{0, 1, -1, math.MaxInt64, math.MinInt64, -0x0f0f0f0f0f0f0f10} {
		if got := whole.Signed(uint64(x)); got != x {
			t.Errorf("Signed %d, not %d", got, x)
		}
	}
}

// someNumbers are numbers of a field: the least, the greatest, and some between.
func someNumbers(f bits.Field) []uint64 {
	l := []uint64{0, 1, f.Max(), f.Max() - 1, f.Max() >> 1, f.Max()>>1 + 1}
	for _, w := range someWords {
		l = append(l, w&f.Max())
	}
	return l
}

// P2.2, P2.4
func TestPut(t *testing.T) {
	eachField(func(f bits.Field) {
		for _, w := range someWords {
			for _, x := range someNumbers(f) {
				got, e := f.Put(w, x)
				if e != api.OK || got != laid(f, w, x) || f.Get(got) != x {
					t.Errorf("%v.Put(%#x, %d): %#x, %v", f, w, x, got, e)
				}
			}
		}
	})
}

// P2.2
func TestPutAboveMax(t *testing.T) {
	eachField(func(f bits.Field) {
		if f.Len == 64 {
			return // no number is above its Max
		}
		for _, x := range []uint64{f.Max() + 1, f.Max() + 2, f.Max()<<1 + 1, 1 << 63, greatest, f.Max() << f.At << 1 &^ f.Max()} {
			if x <= f.Max() {
				continue
			}
			for _, w := range []uint64{0, greatest, 0xabcd} {
				if got, e := f.Put(w, x); got != 0 || e != api.ErrRange {
					t.Errorf("%v.Put(%#x, %d): %#x, %v", f, w, x, got, e)
				}
			}
		}
	})
}

// P2.2
func TestPutIntoNoField(t *testing.T) {
	for _, f := range noFields {
		for _, w := range someWords {
			for _, x := range []uint64{0, 1, greatest} {
				if got, e := f.Put(w, x); got != 0 || e != api.ErrRange {
					t.Errorf("%v.Put(%#x, %d): %#x, %v", f, w, x, got, e)
				}
			}
			for _, x := range []int64{0, 1, -1, math.MinInt64, math.MaxInt64} {
				if got, e := f.PutSigned(w, x); got != 0 || e != api.ErrRange {
					t.Errorf("%v.PutSigned(%#x, %d): %#x, %v", f, w, x, got, e)
				}
			}
		}
	}
}

// someSigned are signed numbers at a field's edges, one beyond each too, and some between and far off.
func someSigned(f bits.Field) []int64 {
	l := []int64{0, 1, -1, 2, -2, math.MaxInt64, math.MinInt64}
	for _, more := range []int64{-1, 0, 1} {
		for _, x := range []*big.Int{power(f.Len-1, more), new(big.Int).Neg(power(f.Len-1, more)), power(f.Len, more)} {
			if x.IsInt64() {
				l = append(l, x.Int64())
			}
		}
	}
	for _, w := range someWords {
		l = append(l, int64(w), number(f, w, -1).Int64())
	}
	return l
}

// P2.2, P2.4
func TestPutSigned(t *testing.T) {
	eachField(func(f bits.Field) {
		least, most := new(big.Int).Neg(power(f.Len-1, 0)), power(f.Len-1, -1)
		for _, w := range someWords {
			for _, x := range someSigned(f) {
				got, e := f.PutSigned(w, x)
				if big.NewInt(x).Cmp(least) < 0 || big.NewInt(x).Cmp(most) > 0 {
					if got != 0 || e != api.ErrRange {
						t.Errorf("%v.PutSigned(%#x, %d): %#x, %v", f, w, x, got, e)
					}
					continue
				}
				if e != api.OK || got != laid(f, w, uint64(x)) || f.Signed(got) != x {
					t.Errorf("%v.PutSigned(%#x, %d): %#x, %v", f, w, x, got, e)
				}
			}
		}
	})
}

// P2.2
func TestPutSignedOfAllBits(t *testing.T) {
	f := bits.Field{At: 0, Len: 64}
	for _, x := range []int64{math.MinInt64, math.MinInt64 + 1, -1, 0, 1, math.MaxInt64 - 1, math.MaxInt64} {
		if got, e := f.PutSigned(0xabcd, x); got != uint64(x) || e != api.OK {
			t.Errorf("PutSigned(%d): %#x, %v", x, got, e)
		}
	}
}

// The chapter's examples of a field.
func TestExampleField(t *testing.T) {
	f := bits.Field{At: 4, Len: 3}
	if f.Max() != 7 || f.Get(0xabcd) != 4 || f.Signed(0x70) != -1 {
		t.Errorf("Max %d, Get %d, Signed %d", f.Max(), f.Get(0xabcd), f.Signed(0x70))
	}
	if w, e := f.Put(0, 5); w != 0x50 || e != api.OK {
		t.Errorf("Put: %#x, %v", w, e)
	}
}

// P2.4
func TestFieldsWithNoBitInCommon(t *testing.T) {
	var few []bits.Field
	eachField(func(f bits.Field) {
		if f.At%7 == 0 && (f.Len%9 == 1 || f.At+f.Len == 64) {
			few = append(few, f)
		}
	})
	pairs := 0
	for _, f := range few {
		for _, g := range few {
			if f.At+f.Len > g.At {
				continue
			}
			pairs++
			for _, w := range someWords {
				for _, x := range []uint64{0, f.Max(), 0x9e3779b97f4a7c15 & f.Max()} {
					anyOrder(t, w, f, g, x, 0x5555555555555555&g.Max())
				}
			}
		}
	}
	if pairs < 100 {
		t.Errorf("only %d pairs", pairs)
	}
}

// anyOrder puts two numbers, the one first and the other first.
func anyOrder(t *testing.T, w uint64, f, g bits.Field, x, y uint64) {
	t.Helper()
	a, _ := f.Put(w, x)
	a, _ = g.Put(a, y)
	b, _ := g.Put(w, y)
	b, _ = f.Put(b, x)
	if a != b || f.Get(a) != x || g.Get(a) != y {
		t.Errorf("%d into %v and %d into %v of %#x: %#x, or %#x", x, f, y, g, w, a, b)
	}
	s, e1 := f.PutSigned(b, f.Signed(a))
	s, e2 := g.PutSigned(s, g.Signed(a))
	if s != a || e1 != api.OK || e2 != api.OK || !slices.Equal([]uint64{f.Get(s), g.Get(s)}, []uint64{x, y}) {
		t.Errorf("%v and %v of %#x, put as signed numbers: %#x, %v, %v", f, g, a, s, e1, e2)
	}
}
