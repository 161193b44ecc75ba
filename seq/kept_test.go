package seq_test

import (
	"math"
	"testing"

	"aileron/seq"
)

// place is what stands in one of a topic's places: a generation that is whole, or nothing that is.
type place struct {
	gen   uint64
	whole bool
}

// topic is a topic's places, written into as publishings begin and end; generation 0 is there from the beginning.
type topic struct {
	places []place
	newest uint64
	held   bool
}

func newTopic(depth int) *topic {
	p := &topic{places: make([]place, depth)}
	p.places[0] = place{0, true}
	return p
}

// step begins a publishing, or ends the one that was begun.
func (p *topic) step() {
	at := (p.newest + 1) % uint64(len(p.places))
	if !p.held {
		p.places[at] = place{}
		p.held = true
		return
	}
	p.newest++
	p.places[at] = place{p.newest, true}
	p.held = false
}

// has tells whether a generation stands in a place, whole.
func (p *topic) has(gen uint64) bool {
	for _, x := range p.places {
		if x == (place{gen, true}) {
			return true
		}
	}
	return false
}

// oldest is the least generation that stands in a place, whole.
func (p *topic) oldest() uint64 {
	least := uint64(math.MaxUint64)
	for _, x := range p.places {
		if x.whole {
			least = min(least, x.gen)
		}
	}
	return least
}

// kept looks at what Kept tells.
func kept(t *testing.T, s, gen uint64, depth int, want bool) {
	t.Helper()
	if seq.Kept(s, gen, depth) != want {
		t.Fatalf("sequence %d, depth %d: generation %d is not told as kept %v", s, depth, gen, want)
	}
}

// first looks at what First tells.
func first(t *testing.T, s uint64, depth int, want uint64) {
	t.Helper()
	if got := seq.First(s, depth); got != want {
		t.Fatalf("sequence %d, depth %d: first is %d, not %d", s, depth, got, want)
	}
}

// P7.3: of each depth, from the first sequence on: what is Kept is what stands in the topic's places, whole, and First is the oldest of that.
func TestKeptIsWhatStandsInPlaces(t *testing.T) {
	for depth := 2; depth <= 16; depth++ {
		p := newTopic(depth)
		for s := range uint64(200) {
			for gen := range uint64(110) {
				kept(t, s, gen, depth, p.has(gen))
			}
			first(t, s, depth, p.oldest())
			p.step()
		}
	}
}

// wordsKept is P7.3's words, with each generation above asked whether it has the place; those of no other than the next ones above can be the first that has it.
func wordsKept(s, gen uint64, depth int) bool {
	if depth < 2 || depth > 16 || gen > s/2 {
		return false
	}
	for above := gen + 1; above <= gen+16; above++ {
		there := above <= s/2 || s%2 == 1 && above == s/2+1
		if there && above%uint64(depth) == gen%uint64(depth) {
			return false
		}
	}
	return true
}

// P7.3: sequences of all sizes, by the promise's words.
func TestKeptByItsWords(t *testing.T) {
	for _, s := range sequences() {
		for depth := -2; depth <= 19; depth++ {
			least, some := uint64(0), false
			for _, gen := range generations(s) {
				kept(t, s, gen, depth, wordsKept(s, gen, depth))
			}
			for back := range min(s/2, 20) + 1 {
				if wordsKept(s, s/2-back, depth) {
					least, some = s/2-back, true
				}
			}
			first(t, s, depth, least)
			if some != (depth >= 2 && depth <= 16) {
				t.Fatalf("sequence %d, depth %d: the test's own words", s, depth)
			}
		}
	}
}

// P7.3: fewer generations than places, as many, and one more, held and not.
func TestKeptAsPlacesFill(t *testing.T) {
	for _, c := range []struct {
		s      uint64
		depth  int
		oldest uint64
	}{
		{0, 2, 0}, {1, 2, 0}, {2, 2, 0}, {3, 2, 1}, {4, 2, 1}, {5, 2, 2}, {6, 2, 2},
		{3, 3, 0}, {4, 3, 0}, {5, 3, 1}, {6, 3, 1}, {7, 3, 2}, {8, 3, 2},
		{0, 16, 0}, {1, 16, 0}, {28, 16, 0}, {29, 16, 0}, {30, 16, 0}, {31, 16, 1}, {32, 16, 1}, {33, 16, 2}, {34, 16, 2},
	} {
		newest := c.s / 2
		first(t, c.s, c.depth, c.oldest)
		kept(t, c.s, c.oldest, c.depth, true)
		kept(t, c.s, newest, c.depth, true)
		kept(t, c.s, newest+1, c.depth, false)
		if c.oldest > 0 {
			kept(t, c.s, c.oldest-1, c.depth, false)
			kept(t, c.s, 0, c.depth, false)
		}
	}
}

// P7.3: the greatest sequences: nothing goes round, neither the sequence nor the next generation.
func TestKeptOfTheGreatest(t *testing.T) {
	const newest = 1<<63 - 1
	for depth := uint64(2); depth <= 16; depth++ {
		first(t, greatest-1, int(depth), newest-depth+1)
		first(t, greatest, int(depth), newest-depth+2)
		for d := range depth - 1 {
			kept(t, greatest-1, newest-d, int(depth), true)
			kept(t, greatest, newest-d, int(depth), true)
		}
		kept(t, greatest-1, newest-depth+1, int(depth), true)
		kept(t, greatest, newest-depth+1, int(depth), false)
		kept(t, greatest-1, newest-depth, int(depth), false)
		for _, gen := range []uint64{0, 1, 15, 16, 1 << 62, newest + 1, newest + 2, newest + depth, greatest - 1, greatest} {
			kept(t, greatest-1, gen, int(depth), false)
			kept(t, greatest, gen, int(depth), false)
		}
	}
}

// P7.3: of a generation that was not published yet nothing is Kept, not even of the one that is being published.
func TestKeptOfWhatIsNotPublished(t *testing.T) {
	for _, s := range []uint64{0, 1, 2, 3, 7, 8, 31, 32, 33, 1 << 40, 1<<40 + 1, greatest - 1, greatest} {
		for depth := 2; depth <= 16; depth++ {
			for d := uint64(1); d <= 40; d++ {
				kept(t, s, s/2+d, depth, false)
			}
			kept(t, s, greatest, depth, false)
		}
	}
}

// P7.3: of a depth that may not be: false, 0.
func TestKeptOfWrongDepths(t *testing.T) {
	wrong := []int{1, 0, -1, -2, -3, -16, 17, 18, 32, 255, 256, 258, 1 << 16, 1<<32 + 2, 1<<32 + 16, math.MaxInt, math.MaxInt - 1, math.MinInt, math.MinInt + 1, math.MinInt + 2}
	for _, depth := range wrong {
		for _, s := range []uint64{0, 1, 2, 3, 7, 8, 20, 33, 1 << 63, greatest - 1, greatest} {
			first(t, s, depth, 0)
			for _, gen := range generations(s) {
				kept(t, s, gen, depth, false)
			}
		}
	}
}

// P7.3: the depths at the edges that may be, by a sequence at which they differ from those beside them.
func TestKeptOfTheLeastAndGreatestDepth(t *testing.T) {
	first(t, 100, 2, 49)
	first(t, 101, 2, 50)
	first(t, 100, 16, 35)
	first(t, 101, 16, 36)
	kept(t, 100, 49, 2, true)
	kept(t, 100, 48, 2, false)
	kept(t, 101, 49, 2, false)
	kept(t, 100, 35, 16, true)
	kept(t, 100, 34, 16, false)
	kept(t, 101, 35, 16, false)
}
