package plan_test

import (
	"math"
	"math/big"
	"slices"
	"testing"

	"aileron/api"
	"aileron/plan"
)

// someNumbers are generations, or epochs, of a ring of so many: its edges, the first rounds, great ones, and the greatest there is.
func someNumbers(ring int) []uint64 {
	n := uint64(ring)
	l := []uint64{0, 1, n - 1, n, n + 1, 2*n - 1, 2 * n, 2*n + 1, math.MaxUint64, math.MaxUint64 - 1, math.MaxUint64 - n, math.MaxUint64 - n + 1}
	for i := range uint64(5 * 64) {
		l = append(l, i, i*0x9e3779b97f4a7c15)
	}
	for i := range 64 {
		l = append(l, 1<<i, 1<<i-1, 1<<i+1)
	}
	return append(l, math.MaxInt64, math.MaxInt64+1, math.MaxInt64+2, math.MaxUint32, math.MaxUint32+1)
}

// remainder is that of a number by a ring, without the arithmetic of words.
func remainder(x uint64, ring int) int {
	return int(new(big.Int).Mod(new(big.Int).SetUint64(x), big.NewInt(int64(ring))).Int64())
}

// at looks at where a generation of a spot lies.
func at(t *testing.T, s plan.Spot, gen uint64, want int) {
	t.Helper()
	if got := s.At(gen); got != want {
		t.Errorf("%v.At(%d): %d, not %d", s, gen, got, want)
	}
}

// entry looks at where an epoch of a plan lies.
func entry(t *testing.T, p plan.Plan, epoch uint64, want int) {
	t.Helper()
	if got := p.Entry(epoch); got != want {
		t.Errorf("%s.Entry(%d): %d, not %d", short(p), epoch, got, want)
	}
}

// P6.2: generations that are written out.
func TestPlacesWrittenOut(t *testing.T) {
	s := plan.Spot{Owners: 9, Seq: 10, First: 11, Words: 6, Depth: 4}
	for gen, want := range map[uint64]int{0: 11, 1: 17, 2: 23, 3: 29, 4: 11, 5: 17, 7: 29, 8: 11, 1 << 63: 11, 1<<63 - 1: 29, math.MaxUint64: 29, math.MaxUint64 - 1: 23} {
		at(t, s, gen, want)
	}
	s = plan.Spot{Owners: 4, Seq: 5, First: 6, Words: 2, Depth: 3}
	for gen, want := range map[uint64]int{0: 6, 1: 8, 2: 10, 3: 6, 4: 8, 5: 10, 1 << 63: 10, math.MaxUint64: 6, math.MaxUint64 - 1: 10} {
		at(t, s, gen, want)
	}
	s = plan.Spot{First: 7, Words: 5, Depth: 1}
	for _, gen := range []uint64{0, 1, 2, math.MaxUint64} {
		at(t, s, gen, 7)
	}
	s = plan.Spot{First: 100, Words: 64, Depth: 16}
	for gen, want := range map[uint64]int{0: 100, 15: 1060, 16: 100, 17: 164, math.MaxUint64: 1060} {
		at(t, s, gen, want)
	}
}

// P6.2: the generations one behind the other go from place to place, and behind the last one to the first.
func TestPlacesGoRound(t *testing.T) {
	for words := 1; words <= 64; words++ {
		for depth := 1; depth <= 16; depth++ {
			for _, first := range []int{0, 1, 11, 65536, 1048575, 1048576} {
				s, want := plan.Spot{First: first, Words: words, Depth: depth}, first
				for gen := range uint64(3*depth + 2) {
					at(t, s, gen, want)
					if want += words; want == first+words*depth {
						want = first
					}
				}
			}
		}
	}
}

// P6.2
func TestPlacesOfGreatGenerations(t *testing.T) {
	for depth := 1; depth <= 16; depth++ {
		for _, gen := range someNumbers(depth) {
			for _, words := range []int{1, 2, 63, 64} {
				at(t, plan.Spot{First: 11, Words: words, Depth: depth}, gen, 11+words*remainder(gen, depth))
			}
		}
	}
}

// P6.2: of spots that Of made a place lies where the bank's words say.
func TestPlacesOfPlans(t *testing.T) {
	for _, c := range rightConfigs() {
		p, bank := of(t, c), bankOf(c)
		for k, s := range p.Spots {
			for _, gen := range []uint64{0, 1, uint64(s.Depth) - 1, uint64(s.Depth), uint64(s.Depth) + 1, math.MaxUint64} {
				want := word{thing: "place", topic: k, which: remainder(gen, s.Depth)}
				if i := s.At(gen); i < 0 || i >= len(bank) || bank[i] != want {
					t.Errorf("topic %d of %s, generation %d: %d", k, short(c), gen, i)
				}
			}
		}
		for _, epoch := range []uint64{0, 1, uint64(c.Log) - 1, uint64(c.Log), uint64(c.Log) + 1, math.MaxUint64} {
			want := word{thing: "entry", which: remainder(epoch, c.Log)}
			if i := p.Entry(epoch); i < 0 || i >= len(bank) || bank[i] != want {
				t.Errorf("%s, epoch %d: %d", short(c), epoch, i)
			}
		}
	}
}

// P6.2: spots at the edges of what may be, and beyond, one number at a time.
func TestSpotsThatMayNotBe(t *testing.T) {
	right := plan.Spot{Owners: 9, Seq: 10, First: 11, Words: 6, Depth: 4}
	far := []int{math.MinInt, math.MaxInt, math.MinInt32, math.MaxInt32, 1 << 32, -1 << 32, 1<<32 + 4, 260, -4, -6, -11}
	for _, gen := range []uint64{0, 1, 3, 4, 5, math.MaxUint64} {
		for _, n := range append([]int{0, 65, -1, -64}, far...) {
			s := right
			s.Words = n
			at(t, s, gen, -1)
		}
		for _, n := range append([]int{0, 17, -1, -16}, far...) {
			s := right
			s.Depth = n
			at(t, s, gen, -1)
		}
		for _, n := range []int{-1, 1048577, -1048576, math.MinInt, math.MaxInt, math.MinInt32, math.MaxInt32, 1 << 32, -1 << 32, 1<<32 + 4, -11} {
			s := right
			s.First = n
			at(t, s, gen, -1)
		}
	}
	at(t, plan.Spot{}, 0, -1)
	at(t, plan.Spot{}, math.MaxUint64, -1)
	at(t, plan.Spot{First: 0, Words: 1, Depth: 1}, math.MaxUint64, 0)
	at(t, plan.Spot{First: 1048576, Words: 64, Depth: 16}, math.MaxUint64, 1049536)
}

// P6.2: all numbers at their edges and beyond, together.
func TestSpotsOfAllEdges(t *testing.T) {
	for _, first := range around(0, 1048576) {
		for _, words := range around(1, 64) {
			for _, depth := range around(1, 16) {
				for _, gen := range []uint64{0, 7, 15, 16, math.MaxUint64} {
					want := -1
					if first >= 0 && first <= 1048576 && words >= 1 && words <= 64 && depth >= 1 && depth <= 16 {
						want = first + words*remainder(gen, depth)
					}
					at(t, plan.Spot{First: first, Words: words, Depth: depth}, gen, want)
				}
			}
		}
	}
}

// P6.2: where the owners and the sequence lie is nothing to a place; nor is what is not the log's to an entry.
func TestWhatTurnsNoPlace(t *testing.T) {
	for _, n := range []int{0, -1, 11, 1048577, math.MinInt, math.MaxInt} {
		at(t, plan.Spot{Owners: n, Seq: 10, First: 11, Words: 6, Depth: 4}, 5, 17)
		at(t, plan.Spot{Owners: 9, Seq: n, First: 11, Words: 6, Depth: 4}, 5, 17)
		at(t, plan.Spot{Owners: n, Seq: n, First: -1, Words: 6, Depth: 4}, 5, -1)
		entry(t, plan.Plan{Reg: n, Log: 1, Long: 8, Size: n}, 9, 2)
		entry(t, plan.Plan{Log: 1, Long: 8, Size: 35, Spots: []plan.Spot{{Owners: n, Seq: n, First: n, Words: n, Depth: n}}}, 9, 2)
	}
}

// P6.2: epochs that are written out.
func TestEntriesWrittenOut(t *testing.T) {
	for epoch, want := range map[uint64]int{0: 1, 1: 2, 7: 8, 8: 1, 9: 2, 15: 8, 16: 1, 1 << 63: 1, math.MaxUint64: 8, math.MaxUint64 - 1: 7} {
		entry(t, plan.Plan{Log: 1, Long: 8}, epoch, want)
	}
	for epoch, want := range map[uint64]int{0: 1, 1: 2, 2: 3, 3: 1, 4: 2, 5: 3, 1 << 63: 3, math.MaxUint64: 1, math.MaxUint64 - 1: 3} {
		entry(t, plan.Plan{Log: 1, Long: 3}, epoch, want)
	}
	for epoch, want := range map[uint64]int{0: 0, 63: 63, 64: 0, 65: 1, math.MaxUint64: 63} {
		entry(t, plan.Plan{Log: 0, Long: 64}, epoch, want)
		entry(t, plan.Plan{Log: 1048576, Long: 64}, epoch, 1048576+want)
	}
	for _, epoch := range []uint64{0, 1, 2, math.MaxUint64} {
		entry(t, plan.Plan{Log: 5, Long: 1}, epoch, 5)
	}
}

// P6.2
func TestEntriesGoRound(t *testing.T) {
	for long := 1; long <= 64; long++ {
		for _, log := range []int{0, 1, 7, 1048575, 1048576} {
			p, want := plan.Plan{Log: log, Long: long}, log
			for epoch := range uint64(3*long + 2) {
				entry(t, p, epoch, want)
				if want++; want == log+long {
					want = log
				}
			}
			for _, epoch := range someNumbers(long) {
				entry(t, p, epoch, log+remainder(epoch, long))
			}
		}
	}
}

// P6.2: plans that Of did not make, at the edges of what may be and beyond.
func TestPlansThatMayNotBe(t *testing.T) {
	epochs := []uint64{0, 1, 63, 64, 65, math.MaxUint64}
	for _, epoch := range epochs {
		for _, n := range []int{0, 65, -1, -8, -64, math.MinInt, math.MaxInt, math.MinInt32, math.MaxInt32, 1 << 32, 1<<32 + 8, -1 << 32, 264} {
			entry(t, plan.Plan{Log: 1, Long: n}, epoch, -1)
		}
		for _, n := range []int{-1, 1048577, -1048576, math.MinInt, math.MaxInt, math.MinInt32, math.MaxInt32, 1 << 32, 1<<32 + 1, -1 << 32} {
			entry(t, plan.Plan{Log: n, Long: 8}, epoch, -1)
		}
		entry(t, plan.Plan{}, epoch, -1)
	}
	for _, log := range around(0, 1048576) {
		for _, long := range around(1, 64) {
			for _, epoch := range epochs {
				want := -1
				if log >= 0 && log <= 1048576 && long >= 1 && long <= 64 {
					want = log + remainder(epoch, long)
				}
				entry(t, plan.Plan{Log: log, Long: long}, epoch, want)
			}
		}
	}
}

// R1: what Of answers beside an error has no entries; and no call panics, or goes on for ever, at plans that Of did not make.
func TestPlansThatOfDidNotMake(t *testing.T) {
	p, e := plan.Of(api.Config{})
	if e != api.ErrRange {
		t.Error(e)
	}
	entry(t, p, 0, -1)
	far := []int{0, 1, -1, 64, math.MinInt, math.MaxInt, math.MinInt + 1, math.MaxInt - 1, 1 << 32, 1 << 62}
	for _, n := range far {
		for _, m := range far {
			s := plan.Spot{Owners: n, Seq: m, First: n, Words: m, Depth: n}
			for _, p := range []plan.Plan{{Reg: n, Log: m, Long: n, Size: m}, {Reg: m, Log: n, Long: m, Size: n, Spots: slices.Repeat([]plan.Spot{s}, 100)}} {
				for _, x := range far {
					p.Whose(x)
					p.Entry(uint64(x))
					s.At(uint64(x))
				}
			}
		}
	}
}
