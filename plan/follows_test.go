package plan_test

import (
	"math"
	"testing"

	"aileron/api"
	"aileron/plan"
)

// whoseOf is what Whose has to tell of a word.
func whoseOf(w word) int {
	switch w.thing {
	case "register":
		return -1
	case "entry":
		return -2
	}
	return w.topic
}

// whose looks at what Whose tells of a word.
func whose(t *testing.T, p plan.Plan, at, want int) {
	t.Helper()
	if got := p.Whose(at); got != want {
		t.Errorf("word %d of a plan of %d: %d, not %d", at, p.Size, got, want)
	}
}

// P6.3: each word of each bank, and those on both sides of it.
func TestWhoseEachWordIs(t *testing.T) {
	for _, c := range rightConfigs() {
		p, bank := of(t, c), bankOf(c)
		for i, w := range bank {
			whose(t, p, i, whoseOf(w))
		}
		for i := 1; i <= 100; i++ {
			whose(t, p, -i, -3)
			whose(t, p, len(bank)-1+i, -3)
		}
	}
}

// P6.3: the first and last word of each thing, as the plan itself tells them.
func TestWhoseTheEdgesAre(t *testing.T) {
	for _, c := range rightConfigs() {
		p := of(t, c)
		whose(t, p, p.Reg, -1)
		whose(t, p, p.Log-1, -1)
		whose(t, p, p.Log, -2)
		whose(t, p, p.Log+p.Long-1, -2)
		whose(t, p, p.Log+p.Long, 0)
		for k, s := range p.Spots {
			whose(t, p, s.Owners, k)
			whose(t, p, s.Seq, k)
			whose(t, p, s.First, k)
			whose(t, p, s.First+s.Words*s.Depth-1, k)
			if k > 0 {
				whose(t, p, s.Owners-1, k-1)
			}
		}
		whose(t, p, p.Size-1, len(p.Spots)-1)
		whose(t, p, p.Size, -3)
		whose(t, p, -1, -3)
	}
}

// P6.3: words that are written out.
func TestWhoseWrittenOut(t *testing.T) {
	p := of(t, least())
	for i, want := range []int{-3, -1, -2, 0, 0, 0, 0, -3} {
		whose(t, p, i-1, want)
	}
	p = of(t, greatest())
	for at, want := range map[int]int{-1: -3, 0: -1, 1: -2, 64: -2, 65: 0, 66: 0, 67: 0, 1090: 0, 1091: 1, 64702: 62, 64703: 63, 65728: 63, 65729: -3, 65730: -3, api.MaxBank: -3} {
		whose(t, p, at, want)
	}
}

// P6.3: words far off.
func TestWhoseWordsFarOffAre(t *testing.T) {
	for _, c := range rightConfigs() {
		p := of(t, c)
		for _, at := range []int{math.MinInt, math.MinInt + 1, math.MaxInt, math.MaxInt - 1, math.MinInt32, math.MaxInt32, 1 << 32, 1<<32 + 1, -1 << 32, 1 << 62, -p.Size, 2 * p.Size, 1 << 17, api.MaxBank, api.MaxBank - 1} {
			whose(t, p, at, -3)
		}
	}
}

// P6.4: here the calls are held against each other alone.

// theirs tells all words of a plan: of each thing those that it needs, by the calls.
func theirs(p plan.Plan, tell func(at, whose int)) {
	tell(p.Reg, -1)
	for epoch := range p.Long {
		tell(p.Entry(uint64(epoch)), -2)
	}
	for k, s := range p.Spots {
		tell(s.Owners, k)
		tell(s.Seq, k)
		for gen := range s.Depth {
			for n := range s.Words {
				tell(s.At(uint64(gen))+n, k)
			}
		}
	}
}

// P6.4: no word is told twice, none lies beyond Size, and none is left.
func TestEachWordIsOneThings(t *testing.T) {
	for _, c := range rightConfigs() {
		p := of(t, c)
		if p.Size < 1 || p.Size > api.MaxBank {
			t.Fatalf("%s: %d words", short(c), p.Size)
		}
		told := make([]int, p.Size)
		theirs(p, func(at, who int) {
			if at < 0 || at >= p.Size {
				t.Fatalf("%s: word %d of %d", short(c), at, p.Size)
			}
			told[at]++
			whose(t, p, at, who)
		})
		for at, n := range told {
			if n != 1 {
				t.Errorf("%s: word %d is told %d times", short(c), at, n)
			}
		}
	}
}

// P6.4: two generations of a topic share their place, if they are a multiple of Depth apart, and else no word.
func TestPlacesOfTwoGenerations(t *testing.T) {
	for _, c := range rightConfigs()[:40] {
		p := of(t, c)
		s := p.Spots[len(p.Spots)-1]
		for _, from := range []uint64{0, 1, 1 << 32, 1<<63 - 3, math.MaxUint64 - 50} {
			for i := range uint64(50) {
				for j := range i + 1 {
					a, b := s.At(from+i), s.At(from+j)
					apart := max(a-b, b-a)
					if (i-j)%uint64(s.Depth) == 0 && apart != 0 || (i-j)%uint64(s.Depth) != 0 && apart < s.Words {
						t.Errorf("%v: generations %d and %d at %d and %d", s, from+i, from+j, a, b)
					}
				}
			}
		}
	}
}

// P6.4: whatever the generation and the epoch, all lies within Size, and is its own.
func TestAllLiesWithin(t *testing.T) {
	for _, c := range rightConfigs()[:40] {
		p := of(t, c)
		for k, s := range p.Spots {
			for _, gen := range someNumbers(s.Depth) {
				whose(t, p, s.At(gen), k)
				whose(t, p, s.At(gen)+s.Words-1, k)
				if s.At(gen)+s.Words > p.Size {
					t.Errorf("%v: generation %d at %d of %d", s, gen, s.At(gen), p.Size)
				}
			}
		}
		for _, epoch := range someNumbers(p.Long) {
			whose(t, p, p.Entry(epoch), -2)
		}
	}
}
