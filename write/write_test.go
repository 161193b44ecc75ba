package write_test

import (
	"math"
	"slices"
	"testing"

	"aileron/api"
	"aileron/bank"
	"aileron/plan"
	"aileron/write"
)

const greatest = math.MaxUint64

// ordinary is a spot of two words and three places, with words that are no topic's ahead of it.
func ordinary() plan.Spot { return plan.Spot{Owners: 3, Seq: 4, First: 5, Words: 2, Depth: 3} }

// spotOf is a spot of so many words and places at the beginning of a bank.
func spotOf(words, depth int) plan.Spot {
	return plan.Spot{Owners: 0, Seq: 1, First: 2, Words: words, Depth: depth}
}

// roomFor is a bank in which a spot just fits, with a sequence.
func roomFor(t *testing.T, s plan.Spot, sequence uint64) *bank.Bank {
	t.Helper()
	b, e := bank.New(s.First + s.Words*s.Depth)
	if e != api.OK {
		t.Fatalf("no bank for %+v: %v", s, e)
	}
	b.Store(s.Seq, sequence)
	return b
}

// record is words that no other record, told by its mark, has any of.
func record(words int, mark uint64) []uint64 {
	all := make([]uint64, words)
	for n := range all {
		all[n] = mark<<32 + uint64(n) + 1
	}
	return all
}

// begin is a publishing that a test goes on with.
func begin(t *testing.T, s plan.Spot, words []uint64, tries int) *write.Op {
	t.Helper()
	o, e := write.New(s, words, tries)
	if e != api.OK || o == nil {
		t.Fatalf("New of %+v, %d words, %d tries: %v, %v", s, len(words), tries, o, e)
	}
	return o
}

// all are all of a bank's words, without an access.
func all(b *bank.Bank) []uint64 {
	var l []uint64
	for at := range b.Len() {
		l = append(l, b.Peek(at))
	}
	return l
}

// finish does the steps that are left; it gives up far behind Most, so that a publishing without an end fails.
func finish(t *testing.T, o *write.Op, b *bank.Bank) int {
	t.Helper()
	for range 1000 {
		if how := o.Step(b); how != write.Busy {
			return how
		}
	}
	t.Fatal("a publishing without an end")
	return write.Busy
}

// stands holds a publishing against how it should stand.
func stands(t *testing.T, what string, o *write.Op, gen uint64, steps int) {
	t.Helper()
	if o.Gen() != gen || o.Steps() != steps {
		t.Errorf("%s: generation %d, %d steps, not %d, %d", what, o.Gen(), o.Steps(), gen, steps)
	}
}

// turned is an ordinary spot, with one thing of it turned.
func turned(turn func(*plan.Spot)) plan.Spot {
	s := ordinary()
	turn(&s)
	return s
}

// The numbers have their values: others write them down as they are.
func TestHowThingsStand(t *testing.T) {
	if write.Busy != 0 || write.Done != 1 || write.Spent != 2 || write.Broke != 3 {
		t.Error(write.Busy, write.Done, write.Spent, write.Broke)
	}
}

// P8.1: spots and tries at their edges are taken; what is made has not begun.
func TestNewAtTheEdges(t *testing.T) {
	for i, s := range []plan.Spot{
		ordinary(),
		turned(func(s *plan.Spot) { s.Words = 1 }), turned(func(s *plan.Spot) { s.Words = 64 }),
		turned(func(s *plan.Spot) { s.Depth = 2 }), turned(func(s *plan.Spot) { s.Depth = 16 }),
		turned(func(s *plan.Spot) { s.Owners = 0 }), turned(func(s *plan.Spot) { s.Owners = 1048576 }),
		turned(func(s *plan.Spot) { s.Seq = 0 }), turned(func(s *plan.Spot) { s.Seq = 1048576 }),
		turned(func(s *plan.Spot) { s.First = 0 }), turned(func(s *plan.Spot) { s.First = 1048576 }),
		{Words: 1, Depth: 2},
		{Owners: 1048576, Seq: 1048576, First: 1048576, Words: 64, Depth: 16},
	} {
		for _, tries := range []int{1, 2, 15, 16} {
			o, e := write.New(s, make([]uint64, s.Words), tries)
			if o == nil || e != api.OK {
				t.Fatalf("spot %d, %d tries: %v, %v", i, tries, o, e)
			}
			stands(t, "a new publishing", o, 0, 0)
			if most := write.Most(s, tries); most != tries+tries+s.Words+1 {
				t.Errorf("spot %d, %d tries: Most is %d", i, tries, most)
			}
		}
	}
}

// refused holds New and Most against what they answer of something that may not be.
func refused(t *testing.T, s plan.Spot, tries int) {
	t.Helper()
	counts := []int{0, 1, 2, 3, 64, 65}
	if s.Words >= 0 && s.Words < 1000 {
		counts = append(counts, s.Words)
	}
	for _, n := range counts {
		if o, e := write.New(s, make([]uint64, n), tries); o != nil || e != api.ErrRange {
			t.Errorf("New of %+v, %d words, %d tries: %v, %v", s, n, tries, o, e)
		}
	}
	if most := write.Most(s, tries); most != 0 {
		t.Errorf("Most of %+v, %d tries: %d", s, tries, most)
	}
}

// P8.1: a spot that is not right is refused, however many words there are: that is named first.
func TestSpotsThatAreNotRight(t *testing.T) {
	for _, n := range []int{-1, 1048577, math.MinInt, math.MaxInt, 1 << 32} {
		for _, tries := range []int{1, 16, 0} {
			refused(t, turned(func(s *plan.Spot) { s.Words = n }), tries)
			refused(t, turned(func(s *plan.Spot) { s.Depth = n }), tries)
			refused(t, turned(func(s *plan.Spot) { s.Owners = n }), tries)
			refused(t, turned(func(s *plan.Spot) { s.Seq = n }), tries)
			refused(t, turned(func(s *plan.Spot) { s.First = n }), tries)
		}
	}
	for _, n := range []int{0, 65} {
		refused(t, turned(func(s *plan.Spot) { s.Words = n }), 1)
	}
	for _, n := range []int{0, 1, 17} {
		refused(t, turned(func(s *plan.Spot) { s.Depth = n }), 1)
	}
	refused(t, plan.Spot{}, 1)
}

// P8.1: tries that may not be.
func TestTriesThatMayNotBe(t *testing.T) {
	for _, tries := range []int{0, 17, -1, -16, 1 << 32, 1<<32 + 1, math.MinInt, math.MaxInt} {
		refused(t, ordinary(), tries)
	}
}

// P8.1: more and fewer words than the spot's.
func TestWidths(t *testing.T) {
	for _, words := range []int{1, 2, 3, 63, 64} {
		s := spotOf(words, 2)
		for n := range 130 {
			o, e := write.New(s, make([]uint64, n), 3)
			if n == words && (o == nil || e != api.OK) || n != words && (o != nil || e != api.ErrWidth) {
				t.Errorf("%d words of %d: %v, %v", n, words, o, e)
			}
		}
		if o, e := write.New(s, nil, 3); o != nil || e != api.ErrWidth {
			t.Errorf("no words of %d: %v, %v", words, o, e)
		}
		if o, e := write.New(s, make([]uint64, words+1), 17); o != nil || e != api.ErrRange {
			t.Errorf("two errors, of %d words: %v, %v", words, o, e)
		}
	}
}

// P8.1: Most, of each number of words and of tries.
func TestMost(t *testing.T) {
	for words := -2; words <= 67; words++ {
		for tries := -2; tries <= 19; tries++ {
			want := 0
			if words >= 1 && words <= 64 && tries >= 1 && tries <= 16 {
				want = 2*tries + words + 1
			}
			if most := write.Most(spotOf(words, 16), tries); most != want {
				t.Errorf("%d words, %d tries: %d, not %d", words, tries, most, want)
			}
		}
	}
}

// R2: what is handed to New is not written into, nor what stands behind its length.
func TestWordsAreNotChanged(t *testing.T) {
	held := []uint64{1, 2, 3, 4, 5}
	s := spotOf(3, 2)
	o := begin(t, s, held[:3], 2)
	if how := finish(t, o, roomFor(t, s, 0)); how != write.Done {
		t.Fatal(how)
	}
	if !slices.Equal(held, []uint64{1, 2, 3, 4, 5}) {
		t.Error(held)
	}
}

// R2: what is handed to New is not kept: whoever turns it later turns nothing of the record, ahead of whichever step.
func TestWordsAreNotKept(t *testing.T) {
	s := spotOf(3, 2)
	for at := range 6 {
		b, held := roomFor(t, s, 0), []uint64{7, 8, 9}
		o := begin(t, s, held, 1)
		for range at {
			o.Step(b)
		}
		clear(held)
		if how := finish(t, o, b); how != write.Done {
			t.Fatal(how)
		}
		if got := all(b); !slices.Equal(got[5:], []uint64{7, 8, 9}) {
			t.Errorf("turned behind %d steps: %v", at, got)
		}
		if !slices.Equal(held, []uint64{0, 0, 0}) {
			t.Errorf("turned behind %d steps: handed in %v", at, held)
		}
	}
}

// R3: two publishings of the same words go their own ways.
func TestPublishingsHaveNothingInCommon(t *testing.T) {
	s, held := spotOf(2, 2), []uint64{7, 8}
	o, p := begin(t, s, held, 1), begin(t, s, held, 1)
	if how := finish(t, o, roomFor(t, s, 0)); how != write.Done {
		t.Fatal(how)
	}
	stands(t, "the other one", p, 0, 0)
	if how := finish(t, p, roomFor(t, s, 6)); how != write.Done {
		t.Fatal(how)
	}
	stands(t, "the first one", o, 1, 5)
	stands(t, "the other one", p, 4, 5)
}
