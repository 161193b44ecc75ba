package read_test

import (
	"math"
	"slices"
	"testing"

	"aileron/api"
	"aileron/bank"
	"aileron/plan"
	"aileron/read"
)

const greatest = math.MaxUint64

// ordinary is a spot of two words and three places, with words that are no topic's ahead of it.
func ordinary() plan.Spot { return plan.Spot{Owners: 3, Seq: 4, First: 5, Words: 2, Depth: 3} }

// spotOf is a spot of so many words and places at the beginning of a bank.
func spotOf(words, depth int) plan.Spot {
	return plan.Spot{Owners: 0, Seq: 1, First: 2, Words: words, Depth: depth}
}

// full is a bank in which a spot just fits, with a sequence; all its other words tell where they stand.
func full(t *testing.T, s plan.Spot, sequence uint64) *bank.Bank {
	t.Helper()
	b, e := bank.New(s.First + s.Words*s.Depth)
	if e != api.OK {
		t.Fatalf("no bank for %+v: %v", s, e)
	}
	for at := range b.Len() {
		b.Store(at, uint64(at)+1000)
	}
	b.Store(s.Seq, sequence)
	return b
}

// standing is what a full bank has in the place of a generation.
func standing(s plan.Spot, gen uint64) []uint64 {
	place := s.First + s.Words*int(gen%uint64(s.Depth))
	var l []uint64
	for n := range s.Words {
		l = append(l, uint64(place+n)+1000)
	}
	return l
}

// all are all of a bank's words, without an access.
func all(b *bank.Bank) []uint64 {
	var l []uint64
	for at := range b.Len() {
		l = append(l, b.Peek(at))
	}
	return l
}

// begin is a reading that a test goes on with.
func begin(t *testing.T, s plan.Spot, tries int) *read.Op {
	t.Helper()
	o, e := read.New(s, tries)
	if e != api.OK || o == nil {
		t.Fatalf("New of %+v, %d tries: %v, %v", s, tries, o, e)
	}
	return o
}

// finish does the steps that are left; it gives up far behind Most, so that a reading without an end fails.
func finish(t *testing.T, o *read.Op, b *bank.Bank) int {
	t.Helper()
	for range 5000 {
		if how := o.Step(b); how != read.Busy {
			return how
		}
	}
	t.Fatal("a reading without an end")
	return read.Busy
}

// tells holds a reading that is Done against what it should tell.
func tells(t *testing.T, what string, o *read.Op, words []uint64, gen uint64, at, steps int) {
	t.Helper()
	if w, g := o.Got(); !slices.Equal(w, words) || g != gen || o.At() != at || o.Steps() != steps {
		t.Fatalf("%s: %v, generation %d, at %d, %d steps, not %v, %d, %d, %d", what, w, g, o.At(), o.Steps(), words, gen, at, steps)
	}
}

// tellsNothing holds a reading that is not Done against what it should tell.
func tellsNothing(t *testing.T, what string, o *read.Op, steps int) {
	t.Helper()
	tells(t, what, o, nil, 0, 0, steps)
}

// turned is an ordinary spot, with one thing of it turned.
func turned(turn func(*plan.Spot)) plan.Spot {
	s := ordinary()
	turn(&s)
	return s
}

// The numbers have their values: others write them down as they are.
func TestHowThingsStand(t *testing.T) {
	if read.Busy != 0 || read.Done != 1 || read.Spent != 2 || read.Broke != 3 {
		t.Error(read.Busy, read.Done, read.Spent, read.Broke)
	}
}

// P9.1: spots and tries at their edges are taken; what is made has not begun.
func TestNewAtTheEdges(t *testing.T) {
	for _, s := range []plan.Spot{
		ordinary(),
		turned(func(s *plan.Spot) { s.Words = 1 }), turned(func(s *plan.Spot) { s.Words = 64 }),
		turned(func(s *plan.Spot) { s.Depth = 2 }), turned(func(s *plan.Spot) { s.Depth = 16 }),
		turned(func(s *plan.Spot) { s.Owners = 0 }), turned(func(s *plan.Spot) { s.Owners = 1048576 }),
		turned(func(s *plan.Spot) { s.Seq = 0 }), turned(func(s *plan.Spot) { s.Seq = 1048576 }),
		turned(func(s *plan.Spot) { s.First = 0 }), turned(func(s *plan.Spot) { s.First = 1048576 }),
		{Words: 1, Depth: 2},
		{Owners: 1048576, Seq: 1048576, First: 1048576, Words: 64, Depth: 16},
	} {
		for _, tries := range []int{1, 2, 15, 16} {
			tellsNothing(t, "a new reading", begin(t, s, tries), 0)
			if most := read.Most(s, tries); most != tries*s.Words+tries+tries {
				t.Errorf("%+v, %d tries: Most is %d", s, tries, most)
			}
		}
	}
}

// P9.1: what is made had no try: each one that it may have is left.
func TestNewHadNoTry(t *testing.T) {
	for tries := 1; tries <= 16; tries++ {
		b := full(t, ordinary(), 0)
		o := begin(t, ordinary(), tries)
		for range 4 * (tries - 1) {
			b.Add(4, 6)
			if how := o.Step(b); how != read.Busy {
				t.Fatalf("%d tries: %d with step %d", tries, how, o.Steps())
			}
		}
		if how := finish(t, o, b); how != read.Done {
			t.Errorf("%d tries: the last one is %d", tries, how)
		}
	}
}

// refused holds New and Most against what they answer of something that may not be.
func refused(t *testing.T, s plan.Spot, tries int) {
	t.Helper()
	if o, e := read.New(s, tries); o != nil || e != api.ErrRange {
		t.Errorf("New of %+v, %d tries: %v, %v", s, tries, o, e)
	}
	if most := read.Most(s, tries); most != 0 {
		t.Errorf("Most of %+v, %d tries: %d", s, tries, most)
	}
}

// P9.1: a spot that is not right is refused, whichever of its numbers it is.
func TestSpotsThatAreNotRight(t *testing.T) {
	for _, n := range []int{-1, 1048577, math.MinInt, math.MaxInt, 1 << 32, 1<<32 + 2} {
		for _, tries := range []int{1, 16, 0} {
			refused(t, turned(func(s *plan.Spot) { s.Words = n }), tries)
			refused(t, turned(func(s *plan.Spot) { s.Depth = n }), tries)
			refused(t, turned(func(s *plan.Spot) { s.Owners = n }), tries)
			refused(t, turned(func(s *plan.Spot) { s.Seq = n }), tries)
			refused(t, turned(func(s *plan.Spot) { s.First = n }), tries)
		}
	}
	for _, n := range []int{0, 65, 66, 128} {
		refused(t, turned(func(s *plan.Spot) { s.Words = n }), 1)
	}
	for _, n := range []int{0, 1, 17, 18, 64} {
		refused(t, turned(func(s *plan.Spot) { s.Depth = n }), 1)
	}
	refused(t, plan.Spot{}, 1)
}

// P9.1: tries that may not be.
func TestTriesThatMayNotBe(t *testing.T) {
	for _, tries := range []int{0, 17, 18, -1, -16, 1 << 32, 1<<32 + 1, math.MinInt, math.MaxInt} {
		refused(t, ordinary(), tries)
	}
}

// P9.1: Most, of each number of words, of places and of tries.
func TestMost(t *testing.T) {
	for words := -2; words <= 67; words++ {
		for depth := 0; depth <= 18; depth++ {
			for tries := -2; tries <= 19; tries++ {
				want := 0
				if words >= 1 && words <= 64 && depth >= 2 && depth <= 16 && tries >= 1 && tries <= 16 {
					want = (words + 2) * tries
				}
				if most := read.Most(spotOf(words, depth), tries); most != want {
					t.Fatalf("%d words, %d places, %d tries: %d, not %d", words, depth, tries, most, want)
				}
			}
		}
	}
}

// P9.3, R2: what Got tells is the caller's own: whoever turns it turns neither the reading, nor what it tells another time, nor the bank.
func TestWhatIsGotIsTheCallers(t *testing.T) {
	for _, words := range []int{1, 2, 3, 5, 63, 64} {
		s := spotOf(words, 2)
		b := full(t, s, 6)
		o, bankWas := begin(t, s, 1), all(b)
		if how := finish(t, o, b); how != read.Done {
			t.Fatal(how)
		}
		want := standing(s, 3)
		first, _ := o.Got()
		second, _ := o.Got()
		longer := append(first, 1)
		clear(first)
		tells(t, "one was turned", o, want, 3, 1, words+2)
		if !slices.Equal(second, want) {
			t.Errorf("one was turned, and the other one is %v", second)
		}
		clear(second)
		clear(longer)
		third, _ := o.Got()
		_ = append(third[:0], 5)
		tells(t, "all were turned", o, want, 3, 1, words+2)
		if !slices.Equal(all(b), bankWas) {
			t.Errorf("the bank was turned: %v", all(b))
		}
	}
}

// P9.3, R3: what was read stays as it was read, whatever becomes of the bank, and with whatever bank it goes on.
func TestWhatIsGotStays(t *testing.T) {
	b := full(t, ordinary(), 2)
	o := begin(t, ordinary(), 1)
	if how := finish(t, o, b); how != read.Done {
		t.Fatal(how)
	}
	for at := range b.Len() {
		b.Store(at, 1)
	}
	tells(t, "the bank was turned", o, standing(ordinary(), 1), 1, 1, 4)
	o.Step(full(t, ordinary(), 40))
	tells(t, "another bank", o, standing(ordinary(), 1), 1, 1, 4)
}

// R3: two readings of one spot go their own ways.
func TestReadingsHaveNothingInCommon(t *testing.T) {
	o, p := begin(t, ordinary(), 1), begin(t, ordinary(), 1)
	if how := finish(t, o, full(t, ordinary(), 2)); how != read.Done {
		t.Fatal(how)
	}
	tellsNothing(t, "the other one", p, 0)
	if how := finish(t, p, full(t, ordinary(), 5)); how != read.Done {
		t.Fatal(how)
	}
	tells(t, "the first one", o, standing(ordinary(), 1), 1, 1, 4)
	tells(t, "the other one", p, standing(ordinary(), 2), 2, 1, 4)
}
