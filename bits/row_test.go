package bits_test

import (
	"math"
	"slices"
	"testing"

	"aileron/api"
	"aileron/bits"
)

// ones is so many lengths of 1.
func ones(n int) []int { return slices.Repeat([]int{1}, n) }

// someRows are lengths that are right: none, one, as many as there may be, up to the last bit and not.
func someRows() [][]int {
	l := [][]int{
		nil, {}, {1}, {63}, {64}, {1, 1}, {1, 63}, {63, 1}, {32, 32}, {3, 1, 60}, {4, 8}, {1, 62, 1},
		{8, 8, 8, 8, 8, 8, 8, 8}, {1, 2, 3, 4, 5, 6, 7, 8}, {21, 21, 22}, {5, 5, 5}, {2, 61}, ones(63), ones(64),
	}
	for n := 1; n <= 64; n++ {
		l = append(l, []int{n})
		if n < 64 {
			l = append(l, []int{n, 64 - n})
		}
		if n < 63 {
			l = append(l, []int{n, 1, 63 - n}, []int{1, n})
		}
	}
	return l
}

// wrongRows are lengths that are wrong, with the error that comes first.
var wrongRows = []struct {
	lens []int
	e    api.Errno
}{
	{[]int{0}, api.ErrRange}, {[]int{-1}, api.ErrRange}, {[]int{65}, api.ErrRange}, {[]int{-64}, api.ErrRange},
	{[]int{math.MaxInt}, api.ErrRange}, {[]int{math.MinInt}, api.ErrRange}, {[]int{1<<32 + 1}, api.ErrRange},
	{[]int{3, 0}, api.ErrRange}, {[]int{3, -1, 64}, api.ErrRange}, {[]int{3, 65}, api.ErrRange}, {[]int{0, 64, 64}, api.ErrRange},
	{[]int{64, 0}, api.ErrRange}, {[]int{64, 65}, api.ErrRange}, {[]int{64, -1}, api.ErrRange}, {[]int{1, 63, 0}, api.ErrRange},
	{[]int{64, math.MaxInt}, api.ErrRange}, {[]int{64, math.MinInt}, api.ErrRange}, {[]int{64, -64, 64}, api.ErrRange},
	{[]int{64, 1}, api.ErrLong}, {[]int{1, 64}, api.ErrLong}, {[]int{64, 64}, api.ErrLong}, {[]int{33, 32}, api.ErrLong},
	{[]int{1, 63, 1}, api.ErrLong}, {[]int{21, 22, 22}, api.ErrLong}, {[]int{60, 4, 1}, api.ErrLong}, {[]int{60, 5}, api.ErrLong},
	{[]int{33, 32, 0}, api.ErrLong}, {[]int{33, 32, 65}, api.ErrLong}, {[]int{64, 1, math.MaxInt}, api.ErrLong}, {[]int{64, 64, -64}, api.ErrLong},
}

// moreWrongRows has those as well that are too long to be written out.
func moreWrongRows() []struct {
	lens []int
	e    api.Errno
} {
	l := slices.Clone(wrongRows)
	add := func(e api.Errno, lens ...int) {
		l = append(l, struct {
			lens []int
			e    api.Errno
		}{lens, e})
	}
	add(api.ErrLong, ones(65)...)
	add(api.ErrLong, append(ones(64), 64)...)
	add(api.ErrRange, append(ones(64), 0)...)
	add(api.ErrRange, append(ones(63), 65)...)
	add(api.ErrLong, append(ones(65), 0)...)
	add(api.ErrLong, slices.Repeat([]int{64}, 100000)...)
	return l
}

// P2.3
func TestRow(t *testing.T) {
	for _, lens := range someRows() {
		row, e := bits.Row(lens)
		if e != api.OK || len(row) != len(lens) {
			t.Errorf("Row(%v): %v, %v", lens, row, e)
			continue
		}
		at := 0
		for i, n := range lens {
			if row[i] != (bits.Field{At: at, Len: n}) || !row[i].May() {
				t.Errorf("Row(%v): field %d is %v", lens, i, row[i])
			}
			at += n
		}
	}
}

// P2.3, R1: numbers that are wrong too, as many as there are, come behind the lengths.
func TestWrongRows(t *testing.T) {
	for _, c := range moreWrongRows() {
		few := c.lens[:min(len(c.lens), 70)]
		if row, e := bits.Row(c.lens); len(row) != 0 || e != c.e {
			t.Errorf("Row(%v): %v, %v", few, row, e)
		}
		for _, x := range [][]uint64{nil, {greatest}, slices.Repeat([]uint64{greatest}, len(c.lens)), make([]uint64, len(c.lens))} {
			if w, e := bits.Join(c.lens, x); w != 0 || e != c.e {
				t.Errorf("Join(%v, %d numbers): %d, %v", few, len(x), w, e)
			}
		}
		for _, w := range []uint64{0, greatest} {
			if x, e := bits.Split(c.lens, w); len(x) != 0 || e != c.e {
				t.Errorf("Split(%v, %#x): %v, %v", few, w, x, e)
			}
		}
	}
}

// P2.3, R1
func TestJoinOfAnotherWidth(t *testing.T) {
	for _, lens := range someRows() {
		for _, n := range []int{0, 1, len(lens) - 1, len(lens) + 1, 64, 65, 1000} {
			if n < 0 || n == len(lens) {
				continue
			}
			for _, x := range []uint64{0, 1, greatest} {
				if w, e := bits.Join(lens, slices.Repeat([]uint64{x}, n)); w != 0 || e != api.ErrWidth {
					t.Errorf("Join(%v, %d numbers): %d, %v", lens, n, w, e)
				}
			}
		}
	}
}

// P2.3
func TestJoinAboveMax(t *testing.T) {
	for _, lens := range someRows() {
		row, _ := bits.Row(lens)
		for i, f := range row {
			for _, x := range []uint64{f.Max(), f.Max() + 1, greatest} {
				numbers := make([]uint64, len(lens))
				numbers[i] = x
				want, wrong := x<<f.At, api.OK
				if x > f.Max() {
					want, wrong = 0, api.ErrRange
				}
				if w, e := bits.Join(lens, numbers); w != want || e != wrong {
					t.Errorf("Join(%v, %v): %#x, %v", lens, numbers, w, e)
				}
			}
		}
	}
	if w, e := bits.Join([]int{4, 8}, []uint64{15, 256}); w != 0 || e != api.ErrRange {
		t.Errorf("the last one above its Max: %#x, %v", w, e)
	}
	if w, e := bits.Join([]int{4, 8}, []uint64{16, 255}); w != 0 || e != api.ErrRange {
		t.Errorf("the first one above its Max: %#x, %v", w, e)
	}
}

// P2.3
func TestWithoutLengths(t *testing.T) {
	for _, lens := range [][]int{nil, {}, ones(2)[:0]} {
		if row, e := bits.Row(lens); len(row) != 0 || e != api.OK {
			t.Errorf("Row: %v, %v", row, e)
		}
		if w, e := bits.Join(lens, nil); w != 0 || e != api.OK {
			t.Errorf("Join: %d, %v", w, e)
		}
		if x, e := bits.Split(lens, greatest); len(x) != 0 || e != api.OK {
			t.Errorf("Split: %v, %v", x, e)
		}
	}
}

// bitByBit is what a row's numbers in a word are.
func bitByBit(lens []int, w uint64) []uint64 {
	var all []uint64
	for _, n := range lens {
		x := uint64(0)
		for k := range n {
			x |= w & 1 << k
			w >>= 1
		}
		all = append(all, x)
	}
	return all
}

// within is a word without the bits that lie behind a row.
func within(lens []int, w uint64) uint64 {
	bitsOfRow := 0
	for _, n := range lens {
		bitsOfRow += n
	}
	for bit := bitsOfRow; bit < 64; bit++ {
		w &^= 1 << bit
	}
	return w
}

// P2.3, P2.4: what is split is joined, but for bits behind the row; what is joined is split.
func TestSplitAndJoin(t *testing.T) {
	for _, lens := range someRows() {
		for _, w := range someWords {
			x, e := bits.Split(lens, w)
			if e != api.OK || !slices.Equal(x, bitByBit(lens, w)) {
				t.Errorf("Split(%v, %#x): %v, %v", lens, w, x, e)
			}
			back, e := bits.Join(lens, x)
			if e != api.OK || back != within(lens, w) {
				t.Errorf("Join(%v, %v), split of %#x: %#x, %v", lens, x, w, back, e)
			}
			again, e := bits.Split(lens, back)
			if e != api.OK || !slices.Equal(again, x) {
				t.Errorf("Split(%v, %#x), joined of %v: %v, %v", lens, back, x, again, e)
			}
		}
	}
}

// P2.4: numbers of a row are there in whichever order they are put.
func TestRowsInWhicheverOrder(t *testing.T) {
	for _, lens := range someRows() {
		row, _ := bits.Row(lens)
		for _, w := range someWords {
			forth, back := uint64(greatest), uint64(greatest)
			for i := range row {
				forth, _ = row[i].Put(forth, row[i].Get(w))
				j := len(row) - 1 - i
				back, _ = row[j].Put(back, row[j].Get(w))
			}
			want := within(lens, w) | ^within(lens, greatest)
			if forth != want || back != want {
				t.Errorf("%v of %#x: %#x forth, %#x back, not %#x", lens, w, forth, back, want)
			}
		}
	}
}

// R2: what is handed in is not written into, nor what stands behind its length; what is answered is the caller's.
func TestWhatIsHandedInStays(t *testing.T) {
	lens := []int{4, 8, 52, 99, 98}
	x := []uint64{3, 255, 7, 99, 98}
	row, _ := bits.Row(lens[:3])
	bits.Join(lens[:3], x[:3])
	parts, _ := bits.Split(lens[:3], 0x7ff3)
	bits.Row(lens)
	bits.Join(lens, x)
	bits.Split(lens, greatest)
	for i := range row {
		row[i], parts[i] = bits.Field{At: -1, Len: -1}, 66
	}
	_, _ = append(row, bits.Field{}), append(parts, 66)
	if !slices.Equal(lens, []int{4, 8, 52, 99, 98}) || !slices.Equal(x, []uint64{3, 255, 7, 99, 98}) {
		t.Errorf("%v and %v were handed in", lens, x)
	}
	if again, e := bits.Row(lens[:3]); e != api.OK || !slices.Equal(again, []bits.Field{{At: 0, Len: 4}, {At: 4, Len: 8}, {At: 12, Len: 52}}) {
		t.Errorf("Row: %v, %v", again, e)
	}
	if again, e := bits.Split(lens[:3], 0x7ff3); e != api.OK || !slices.Equal(again, []uint64{3, 255, 7}) {
		t.Errorf("Split: %v, %v", again, e)
	}
}

// The chapter's examples of a row.
func TestExampleRow(t *testing.T) {
	row, e := bits.Row([]int{3, 1, 60})
	if e != api.OK || !slices.Equal(row, []bits.Field{{At: 0, Len: 3}, {At: 3, Len: 1}, {At: 4, Len: 60}}) {
		t.Errorf("Row: %v, %v", row, e)
	}
	if w, e := bits.Join([]int{3, 1, 60}, []uint64{4, 1, 2}); w != 44 || e != api.OK {
		t.Errorf("Join: %d, %v", w, e)
	}
	if x, e := bits.Split([]int{3, 1, 60}, 44); e != api.OK || !slices.Equal(x, []uint64{4, 1, 2}) {
		t.Errorf("Split: %v, %v", x, e)
	}
}
