package seq_test

import (
	"math"
	"math/bits"
	"testing"

	"aileron/api"
	"aileron/seq"
)

const greatest = math.MaxUint64

// sequences are the small ones, those around each power of two, the greatest ones, and some between.
func sequences() []uint64 {
	var all []uint64
	for s := range uint64(300) {
		all = append(all, s, greatest-s)
	}
	for b := 9; b < 64; b++ {
		for d := range uint64(9) {
			all = append(all, 1<<b+d-4)
		}
	}
	x := uint64(1)
	for range 500 {
		x = x*6364136223846793005 + 1442695040888963407
		all = append(all, x, x>>(x%64))
	}
	return all
}

// generations are those around the newest one of a sequence, and those that no sequence comes to.
func generations(s uint64) []uint64 {
	all := []uint64{0, 1, 2, 15, 16, 17, 1<<62 - 1, 1 << 62, 1<<63 - 2, 1<<63 - 1, 1 << 63, 1<<63 + 1, greatest - 1, greatest, s, s + 1, s - 1}
	for d := range uint64(41) {
		all = append(all, s/2+d-20)
	}
	return all
}

// P7.1: two sequences have the same generation, the even one not held, the odd one held.
func TestGenAndHeldAreOfPairs(t *testing.T) {
	for g := range uint64(10000) {
		for _, held := range []bool{false, true} {
			s := g + g
			if held {
				s++
			}
			if seq.Gen(s) != g || seq.Held(s) != held {
				t.Fatalf("sequence %d: generation %d, held %v, not %d, %v", s, seq.Gen(s), seq.Held(s), g, held)
			}
		}
	}
}

// P7.1: the edges, and those around them.
func TestGenAndHeldAtTheEdges(t *testing.T) {
	for _, c := range []struct {
		s, gen uint64
		held   bool
	}{
		{0, 0, false}, {1, 0, true}, {2, 1, false}, {3, 1, true}, {1<<63 - 1, 1<<62 - 1, true}, {1 << 63, 1 << 62, false}, {1<<63 + 1, 1 << 62, true},
		{greatest - 3, 1<<63 - 2, false}, {greatest - 2, 1<<63 - 2, true}, {greatest - 1, 1<<63 - 1, false}, {greatest, 1<<63 - 1, true},
	} {
		if seq.Gen(c.s) != c.gen || seq.Held(c.s) != c.held {
			t.Fatalf("sequence %d: generation %d, held %v, not %d, %v", c.s, seq.Gen(c.s), seq.Held(c.s), c.gen, c.held)
		}
	}
}

// P7.1: the generation is half of the sequence, and what is left tells whether it is held.
func TestGenAndHeldTellTheWholeSequence(t *testing.T) {
	for _, s := range sequences() {
		g := seq.Gen(s)
		left := s - g - g
		if left > 1 || seq.Held(s) != (left == 1) {
			t.Fatalf("sequence %d: generation %d, held %v", s, g, seq.Held(s))
		}
	}
}

// P7.1: Since is what Gen is above a generation, and nothing where that is above Gen.
func TestSince(t *testing.T) {
	for _, s := range sequences() {
		for _, gen := range generations(s) {
			want, above := bits.Sub64(s/2, gen, 0)
			if above == 1 {
				want = 0
			}
			if got := seq.Since(s, gen); got != want {
				t.Fatalf("sequence %d, generation %d: %d, not %d", s, gen, got, want)
			}
		}
	}
}

// P7.1: Since at its edges, of even sequences and odd ones.
func TestSinceAtTheEdges(t *testing.T) {
	for _, c := range []struct{ s, gen, want uint64 }{
		{0, 0, 0}, {0, 1, 0}, {1, 0, 0}, {1, 1, 0}, {2, 0, 1}, {2, 1, 0}, {2, 2, 0}, {3, 0, 1}, {3, 1, 0}, {3, 2, 0}, {7, 0, 3}, {7, 1, 2}, {7, 3, 0}, {7, 4, 0}, {7, greatest, 0}, {0, greatest, 0},
		{greatest, 0, 1<<63 - 1}, {greatest, 1, 1<<63 - 2}, {greatest, 1<<63 - 2, 1}, {greatest, 1<<63 - 1, 0}, {greatest, 1 << 63, 0}, {greatest, greatest, 0}, {greatest - 1, 0, 1<<63 - 1}, {greatest - 1, 1 << 63, 0},
	} {
		if got := seq.Since(c.s, c.gen); got != c.want {
			t.Fatalf("sequence %d, generation %d: %d, not %d", c.s, c.gen, got, c.want)
		}
	}
}

// turn looks at what Take or Give answers.
func turn(t *testing.T, name string, f func(uint64) (uint64, api.Errno), s, want uint64, code api.Errno) {
	t.Helper()
	if got, e := f(s); got != want || e != code {
		t.Fatalf("%s of %d: %d, %v, not %d, %v", name, s, got, e, want, code)
	}
}

// P7.2: Take of each even sequence and Give of each odd one is the next one; the others are refused with their error and 0.
func TestTakeAndGive(t *testing.T) {
	for _, s := range sequences() {
		switch {
		case s&1 == 0:
			turn(t, "Take", seq.Take, s, s+1, api.OK)
			turn(t, "Give", seq.Give, s, 0, api.ErrState)
		case s == greatest:
			turn(t, "Take", seq.Take, s, 0, api.ErrBusy)
			turn(t, "Give", seq.Give, s, 0, api.ErrRange)
		default:
			turn(t, "Take", seq.Take, s, 0, api.ErrBusy)
			turn(t, "Give", seq.Give, s, s+1, api.OK)
		}
	}
}

// P7.2: the edges: the least sequences, the greatest ones, and those whose highest bit turns.
func TestTakeAndGiveAtTheEdges(t *testing.T) {
	turn(t, "Take", seq.Take, 0, 1, api.OK)
	turn(t, "Take", seq.Take, 1, 0, api.ErrBusy)
	turn(t, "Take", seq.Take, 1<<63-2, 1<<63-1, api.OK)
	turn(t, "Take", seq.Take, 1<<63-1, 0, api.ErrBusy)
	turn(t, "Take", seq.Take, 1<<63, 1<<63+1, api.OK)
	turn(t, "Take", seq.Take, greatest-2, 0, api.ErrBusy)
	turn(t, "Take", seq.Take, greatest-1, greatest, api.OK)
	turn(t, "Take", seq.Take, greatest, 0, api.ErrBusy)

	turn(t, "Give", seq.Give, 0, 0, api.ErrState)
	turn(t, "Give", seq.Give, 1, 2, api.OK)
	turn(t, "Give", seq.Give, 1<<63-1, 1<<63, api.OK)
	turn(t, "Give", seq.Give, 1<<63, 0, api.ErrState)
	turn(t, "Give", seq.Give, greatest-2, greatest-1, api.OK)
	turn(t, "Give", seq.Give, greatest-1, 0, api.ErrState)
	turn(t, "Give", seq.Give, greatest, 0, api.ErrRange)
}

// The chapter's examples.
func TestExample(t *testing.T) {
	if seq.Gen(7) != 3 || !seq.Held(7) {
		t.Errorf("sequence 7: generation %d, held %v", seq.Gen(7), seq.Held(7))
	}
	if seq.First(7, 3) != 2 || seq.First(8, 3) != 2 {
		t.Errorf("first: %d and %d", seq.First(7, 3), seq.First(8, 3))
	}
	for gen, want := range []bool{false, false, true, true, false} {
		if seq.Kept(7, uint64(gen), 3) != want {
			t.Errorf("generation %d of sequence 7: not %v", gen, want)
		}
	}
}
