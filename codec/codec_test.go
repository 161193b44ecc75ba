package codec_test

import (
	"math"
	"slices"
	"testing"

	"aileron/api"
	"aileron/codec"
)

// Parts, short to write.
var (
	flag  = codec.Part{Kind: codec.Flag, Len: 1}
	point = codec.Part{Kind: codec.Point, Len: 64}
)

func count(n int) codec.Part { return codec.Part{Kind: codec.Count, Len: n} }

func whole(n int) codec.Part { return codec.Part{Kind: codec.Whole, Len: n} }

// row is its parts.
func row(l ...codec.Part) []codec.Part { return l }

// many is so many times one part.
func many(p codec.Part, n int) []codec.Part { return slices.Repeat(row(p), n) }

// lenOf are the least and the greatest Len of each kind.
var lenOf = [4][2]int{codec.Flag: {1, 1}, codec.Count: {1, 63}, codec.Whole: {2, 64}, codec.Point: {64, 64}}

// allParts are all parts that may be.
func allParts() []codec.Part {
	var l []codec.Part
	for kind, lens := range lenOf {
		for n := lens[0]; n <= lens[1]; n++ {
			l = append(l, codec.Part{Kind: kind, Len: n})
		}
	}
	return l
}

// source is numbers without an order, and always the same ones.
type source uint64

func (s *source) next() uint64 {
	*s = *s*6364136223846793005 + 1442695040888963407
	return uint64(*s>>32)<<32 | uint64(*s*2862933555777941757>>32)
}

func (s *source) below(n int) int { return int(s.next() >> 33 % uint64(n)) }

// scattered is so many rows of right parts, short and long ones.
func scattered(n int) [][]codec.Part {
	var out [][]codec.Part
	all := allParts()
	s := source(n)
	for len(out) < n {
		var l []codec.Part
		for range 1 + s.below(1<<(1+len(out)%6)) {
			p := all[s.below(len(all))]
			if s.below(3) > 0 { // small ones, more often than there are
				p = []codec.Part{flag, count(1 + s.below(9)), whole(2 + s.below(9))}[s.below(3)]
			}
			l = append(l, p)
		}
		out = append(out, l)
	}
	return out
}

// someRows are rows of right parts: one, as many as there may be, as many words as there may be, and what lies between.
func someRows() [][]codec.Part {
	l := [][]codec.Part{
		row(flag, count(7), point),
		row(count(60), flag, whole(3), whole(4), point, flag),
		row(count(63), flag), row(count(63), whole(2)), row(count(62), whole(2), flag), row(flag, count(63)), row(flag, whole(64)),
		row(point, point), row(flag, point, flag, point), row(count(1), count(63), count(63), count(1), count(1)),
		many(flag, 2), many(flag, 64), many(flag, 65), many(flag, 255), many(flag, 256),
		many(point, 63), many(point, 64), many(whole(64), 64), many(count(33), 64), many(count(32), 128), many(whole(16), 256),
		append(many(point, 63), many(flag, 64)...), append(many(count(63), 64), flag), append(many(flag, 192), many(point, 61)...),
		append(many(count(40), 64), many(count(24), 1)...), append(many(flag, 1), many(point, 63)...),
	}
	for _, p := range allParts() {
		l = append(l, row(p), row(p, p), row(flag, p), row(p, flag), row(p, count(64-min(p.Len, 63))), row(count(64-min(p.Len, 63)), p), row(count(65-max(p.Len, 2)), p))
	}
	return append(l, scattered(400)...)
}

// places is where right parts lie, told from the bits of all words in one row.
func places(l []codec.Part) ([][2]int, int) {
	var at [][2]int
	end := 0
	for _, p := range l {
		if end/64 != (end+p.Len-1)/64 {
			end = (end + 63) / 64 * 64
		}
		at = append(at, [2]int{end / 64, end % 64})
		end += p.Len
	}
	return at, (end + 63) / 64
}

// wrongRow is parts that are wrong, with the error that comes first.
type wrongRow struct {
	l []codec.Part
	e api.Errno
}

// wrongKinds are kinds that are none.
var wrongKinds = []int{-1, 4, 5, -4, 64, 255, 256, 256 + codec.Count, 1 << 32, 1<<32 + codec.Whole, math.MaxInt, math.MinInt}

// wrongParts are parts that are wrong, each by itself.
func wrongParts() []wrongRow {
	var out []wrongRow
	for _, kind := range wrongKinds {
		for _, n := range []int{0, 1, 64, -1, 65, math.MinInt} {
			out = append(out, wrongRow{row(codec.Part{Kind: kind, Len: n}), api.ErrArg})
		}
	}
	for kind, lens := range lenOf {
		for _, n := range []int{0, -1, 1, 2, 32, 63, 64, 65, 66, 128, 1<<32 + 1, 1 << 32, 256 + 8, -64, math.MaxInt, math.MinInt, lens[0] - 1, lens[1] + 1} {
			if n < lens[0] || n > lens[1] {
				out = append(out, wrongRow{row(codec.Part{Kind: kind, Len: n}), api.ErrRange})
			}
		}
	}
	return out
}

// wrongRows are rows of parts that are wrong: by how many they are, by a part, by the words that they need.
func wrongRows() []wrongRow {
	none, short := codec.Part{Kind: 4, Len: 1}, whole(1)
	out := []wrongRow{
		{nil, api.ErrLong}, {row(), api.ErrLong},
		{many(flag, 257), api.ErrLong}, {many(flag, 258), api.ErrLong}, {many(flag, 100000), api.ErrLong},
		{many(none, 257), api.ErrLong}, {many(short, 257), api.ErrLong}, {append(many(flag, 256), none), api.ErrLong},
		{many(none, 256), api.ErrArg}, {many(short, 256), api.ErrRange},
		{many(point, 65), api.ErrLong}, {many(point, 256), api.ErrLong}, {many(count(33), 65), api.ErrLong},
		{append(many(point, 64), flag), api.ErrLong}, {append(many(count(63), 64), flag, flag), api.ErrLong}, {append(many(count(63), 64), whole(2)), api.ErrLong},
		{append(many(count(40), 64), count(25)), api.ErrLong}, {append(many(whole(32), 128), flag), api.ErrLong},
		{row(none, short), api.ErrArg}, {row(short, none), api.ErrRange}, {row(flag, none, short), api.ErrArg}, {row(flag, short, none), api.ErrRange},
		{append(many(point, 64), none), api.ErrArg}, {append(many(point, 64), short), api.ErrRange}, {append(many(point, 64), count(64)), api.ErrRange},
		{append(many(point, 65), none), api.ErrLong}, {append(many(point, 65), short), api.ErrLong},
		{append(row(none), many(point, 65)...), api.ErrArg}, {append(row(short), many(point, 65)...), api.ErrRange},
	}
	for _, c := range wrongParts() {
		out = append(out, c, wrongRow{row(flag, c.l[0]), c.e}, wrongRow{row(c.l[0], flag), c.e}, wrongRow{append(many(flag, 255), c.l[0]), c.e})
	}
	return out
}

// P4.1
func TestPlaces(t *testing.T) {
	for _, l := range someRows() {
		at, n, e := codec.Places(l)
		wantAt, wantN := places(l)
		if e != api.OK || n != wantN || !slices.Equal(at, wantAt) {
			t.Errorf("Places(%v): %v, %d, %v", l, at, n, e)
		}
		if e := codec.Check(l); e != api.OK {
			t.Errorf("Check(%v): %v", l, e)
		}
	}
}

// P4.1: the model above, held against places that are written out.
func TestPlacesWrittenOut(t *testing.T) {
	for _, c := range []struct {
		l  []codec.Part
		at [][2]int
		n  int
	}{
		{row(flag), [][2]int{{0, 0}}, 1},
		{row(point), [][2]int{{0, 0}}, 1},
		{row(count(63), flag), [][2]int{{0, 0}, {0, 63}}, 1},
		{row(count(63), flag, flag), [][2]int{{0, 0}, {0, 63}, {1, 0}}, 2},
		{row(count(63), whole(2), flag), [][2]int{{0, 0}, {1, 0}, {1, 2}}, 2},
		{row(flag, whole(64), flag), [][2]int{{0, 0}, {1, 0}, {2, 0}}, 3},
		{row(whole(32), count(32), whole(32)), [][2]int{{0, 0}, {0, 32}, {1, 0}}, 2},
		{row(whole(32), count(33), count(31)), [][2]int{{0, 0}, {1, 0}, {1, 33}}, 2},
		{row(point, flag, point), [][2]int{{0, 0}, {1, 0}, {2, 0}}, 3},
	} {
		at, n, e := codec.Places(c.l)
		if e != api.OK || n != c.n || !slices.Equal(at, c.at) {
			t.Errorf("Places(%v): %v, %d, %v", c.l, at, n, e)
		}
	}
}

// P4.1
func TestAsManyAsThereMayBe(t *testing.T) {
	if at, n, e := codec.Places(many(flag, 256)); e != api.OK || n != 4 || len(at) != 256 || at[255] != [2]int{3, 63} {
		t.Errorf("256 flags: %d words, %v", n, e)
	}
	if at, n, e := codec.Places(many(point, 64)); e != api.OK || n != 64 || len(at) != 64 || at[63] != [2]int{63, 0} {
		t.Errorf("64 points: %d words, %v", n, e)
	}
	if at, n, e := codec.Places(append(many(count(63), 64), flag)); e != api.OK || n != 64 || len(at) != 65 || at[64] != [2]int{63, 63} {
		t.Errorf("the last bit of the last word: %d words, %v", n, e)
	}
}

// P4.1
func TestEachLenOfEachKind(t *testing.T) {
	for kind := -3; kind <= 7; kind++ {
		for n := -70; n <= 130; n++ {
			want := api.OK
			if kind < 0 || kind > 3 {
				want = api.ErrArg
			} else if n < lenOf[kind][0] || n > lenOf[kind][1] {
				want = api.ErrRange
			}
			if e := codec.Check(row(codec.Part{Kind: kind, Len: n})); e != want {
				t.Errorf("kind %d of %d bits: %v, not %v", kind, n, e, want)
			}
		}
	}
}

// P4.1 to P4.4, R1: what all calls say to wrong parts, whatever else is wrong.
func TestWrongRows(t *testing.T) {
	for _, c := range wrongRows() {
		few := c.l[:min(len(c.l), 3)]
		if e := codec.Check(c.l); e != c.e {
			t.Errorf("Check(%v ..): %v, not %v", few, e, c.e)
		}
		if at, n, e := codec.Places(c.l); len(at) != 0 || n != 0 || e != c.e {
			t.Errorf("Places(%v ..): %v, %d, %v, not %v", few, at, n, e, c.e)
		}
		for _, v := range [][]codec.Value{nil, make([]codec.Value, len(c.l)), slices.Repeat([]codec.Value{{N: -1, Z: 1}}, len(c.l)+1)} {
			if w, e := codec.Encode(c.l, v); len(w) != 0 || e != c.e {
				t.Errorf("Encode(%v ..): %v, %v, not %v", few, w, e, c.e)
			}
		}
		for _, w := range [][]uint64{nil, {0}, {math.MaxUint64}, make([]uint64, 65)} {
			if v, e := codec.Decode(c.l, w); len(v) != 0 || e != c.e {
				t.Errorf("Decode(%v ..): %v, %v, not %v", few, v, e, c.e)
			}
		}
		if s, e := codec.Print(c.l); s != "" || e != c.e {
			t.Errorf("Print(%v ..): %q, %v, not %v", few, s, e, c.e)
		}
	}
}

// The numbers of the kinds are the document's.
func TestKinds(t *testing.T) {
	if codec.Flag != 0 || codec.Count != 1 || codec.Whole != 2 || codec.Point != 3 {
		t.Error(codec.Flag, codec.Count, codec.Whole, codec.Point)
	}
}
