package write_test

import (
	"math/rand/v2"
	"slices"
	"testing"

	"aileron/api"
	"aileron/bank"
	"aileron/plan"
	"aileron/write"
)

// step does one step and holds it against how the publishing should stand behind it, and how many accesses it should have done.
func step(t *testing.T, o *write.Op, b *bank.Bank, how, accesses int) {
	t.Helper()
	steps, touches := o.Steps(), b.Touches()
	if got := o.Step(b); got != how {
		t.Fatalf("step %d: %d, not %d", steps+1, got, how)
	}
	if o.Steps() != steps+accesses || b.Touches() != touches+accesses {
		t.Fatalf("step %d: %d steps, %d accesses, not %d", steps+1, o.Steps()-steps, b.Touches()-touches, accesses)
	}
	if how != write.Done && o.Gen() != 0 {
		t.Fatalf("step %d: generation %d", steps+1, o.Gen())
	}
}

// holds holds all words of a bank against what they should be.
func holds(t *testing.T, what string, b *bank.Bank, want []uint64) {
	t.Helper()
	if got := all(b); !slices.Equal(got, want) {
		t.Fatalf("%s: the words are %v, not %v", what, got, want)
	}
}

// The chapter's examples.
func TestExample(t *testing.T) {
	s := plan.Spot{Owners: 9, Seq: 10, First: 11, Words: 2, Depth: 4}
	b := roomFor(t, s, 0)
	want := all(b)
	o := begin(t, s, []uint64{70, 80}, 3)
	step(t, o, b, write.Busy, 1)
	holds(t, "Load of 10", b, want)
	step(t, o, b, write.Busy, 1)
	want[10] = 1
	holds(t, "CAS of 10", b, want)
	step(t, o, b, write.Busy, 1)
	want[13] = 70
	holds(t, "the first Store", b, want)
	step(t, o, b, write.Busy, 1)
	want[14] = 80
	holds(t, "the second Store", b, want)
	step(t, o, b, write.Done, 1)
	want[10] = 2
	holds(t, "Store of 10", b, want)
	stands(t, "the example", o, 1, 5)
}

// P8.2: the table, line by line, of a publishing alone: each number of words and of places, and sequences of all sizes, that go round.
func TestTheTable(t *testing.T) {
	for _, words := range []int{1, 2, 3, 5, 63, 64} {
		for depth := 2; depth <= 16; depth++ {
			for _, sequence := range []uint64{0, 2, 4, 6, 8, 10, 28, 30, 32, 34, 1 << 33, 1<<63 - 2, 1 << 63, greatest - 5, greatest - 3, greatest - 1} {
				publishAlone(t, spotOf(words, depth), sequence)
			}
		}
	}
}

// publishAlone goes through a publishing that nobody disturbs.
func publishAlone(t *testing.T, s plan.Spot, sequence uint64) {
	t.Helper()
	b := roomFor(t, s, sequence)
	for at := s.First; at < b.Len(); at++ {
		b.Store(at, uint64(at)+1000)
	}
	want, words := all(b), record(s.Words, 5)
	o := begin(t, s, words, 1)
	step(t, o, b, write.Busy, 1)
	holds(t, "line 1", b, want)
	step(t, o, b, write.Busy, 1)
	want[s.Seq] = sequence + 1
	holds(t, "line 2", b, want)
	gen := sequence/2 + 1
	place := s.First + s.Words*int(gen%uint64(s.Depth))
	for n, x := range words {
		step(t, o, b, write.Busy, 1)
		want[place+n] = x
		holds(t, "line 3", b, want)
	}
	step(t, o, b, write.Done, 1)
	want[s.Seq] = sequence + 2
	holds(t, "line 4", b, want)
	stands(t, "alone", o, gen, s.Words+3)
}

// P8.2: behind the greatest sequence but one comes 0: the generation is the one whose place was written into.
func TestTheSequenceGoesRound(t *testing.T) {
	s := spotOf(1, 3)
	b := roomFor(t, s, greatest-1)
	o := begin(t, s, []uint64{77}, 1)
	step(t, o, b, write.Busy, 1)
	step(t, o, b, write.Busy, 1)
	holds(t, "held", b, []uint64{0, greatest, 0, 0, 0})
	step(t, o, b, write.Busy, 1)
	holds(t, "laid", b, []uint64{0, greatest, 0, 0, 77}) // the remainder of 2^63 by 3 is 2
	step(t, o, b, write.Done, 1)
	holds(t, "gone round", b, []uint64{0, 0, 0, 0, 77})
	stands(t, "gone round", o, 1<<63, 4)
}

// P8.2: a sequence that is odd all the time spends as many tries as there are, one access each.
func TestSpentByAnOddSequence(t *testing.T) {
	for _, sequence := range []uint64{1, 3, 7, 1<<63 - 1, 1<<63 + 1, greatest - 2, greatest} {
		for tries := 1; tries <= 16; tries++ {
			b := roomFor(t, ordinary(), sequence)
			want := all(b)
			o := begin(t, ordinary(), record(2, 1), tries)
			for range tries - 1 {
				step(t, o, b, write.Busy, 1)
			}
			step(t, o, b, write.Spent, 1)
			step(t, o, b, write.Spent, 0)
			holds(t, "spent", b, want)
			stands(t, "spent", o, 0, tries)
		}
	}
}

// P8.2: a sequence that others turn between each Load and CAS spends as many tries as there are, two accesses each.
func TestSpentByTurns(t *testing.T) {
	for _, by := range []uint64{1, 2, 3, 4, greatest} {
		for tries := 1; tries <= 16; tries++ {
			b := roomFor(t, ordinary(), 8)
			o := begin(t, ordinary(), record(2, 1), tries)
			for i := range tries {
				b.Store(4, 8+2*uint64(i))
				step(t, o, b, write.Busy, 1)
				b.Add(4, by)
				want, how := all(b), write.Busy
				if i == tries-1 {
					how = write.Spent
				}
				step(t, o, b, how, 1)
				holds(t, "another one was first", b, want)
			}
			step(t, o, b, write.Spent, 0)
			stands(t, "spent", o, 0, 2*tries)
		}
	}
}

// P8.2: whatever the last try but one met, held or turned, the last one may still publish; the longest way takes Most.
func TestTheLastTry(t *testing.T) {
	for tries := 2; tries <= 16; tries++ {
		for heldOnes := range tries {
			b := roomFor(t, ordinary(), 0)
			o := begin(t, ordinary(), record(2, 1), tries)
			for i := range tries - 1 {
				if i < heldOnes {
					b.Store(4, 2*uint64(i)+1)
					step(t, o, b, write.Busy, 1)
					continue
				}
				b.Store(4, 2*uint64(i))
				step(t, o, b, write.Busy, 1)
				b.Add(4, 2)
				step(t, o, b, write.Busy, 1)
			}
			b.Store(4, 40)
			for range 4 {
				step(t, o, b, write.Busy, 1)
			}
			step(t, o, b, write.Done, 1)
			stands(t, "the last try", o, 21, write.Most(ordinary(), tries)-heldOnes)
			holds(t, "the last try", b, append(append(make([]uint64, 4), 42), append(record(2, 1), 0, 0, 0, 0)...))
		}
	}
}

// P8.2: what the sequence is as a try begins is what counts, not what it was as an elder try did.
func TestEachTryLooksAnew(t *testing.T) {
	b := roomFor(t, ordinary(), 2)
	o := begin(t, ordinary(), record(2, 1), 2)
	step(t, o, b, write.Busy, 1)
	b.Store(4, 4)
	step(t, o, b, write.Busy, 1)
	step(t, o, b, write.Busy, 1)
	step(t, o, b, write.Busy, 1)
	if b.Peek(4) != 5 {
		t.Fatalf("the sequence is %d", b.Peek(4))
	}
	if how := finish(t, o, b); how != write.Done || b.Peek(4) != 6 {
		t.Fatalf("%d, the sequence is %d", how, b.Peek(4))
	}
	stands(t, "the second try", o, 3, 7)
}

// P8.2: line 2 asks what the sequence is, not whether it was turned; lines 3 and 4 store, whatever was there.
func TestWhatOthersLeave(t *testing.T) {
	b := roomFor(t, ordinary(), 6)
	o := begin(t, ordinary(), []uint64{11, 12}, 1)
	step(t, o, b, write.Busy, 1)
	b.Store(4, 9)
	b.Store(4, 6)
	step(t, o, b, write.Busy, 1)
	for at := 4; at < b.Len(); at++ {
		b.Store(at, 100) // generation 4 is at place 1, whatever the sequence says now
	}
	step(t, o, b, write.Busy, 1)
	holds(t, "the first word", b, []uint64{0, 0, 0, 0, 100, 100, 100, 11, 100, 100, 100})
	step(t, o, b, write.Busy, 1)
	holds(t, "the second word", b, []uint64{0, 0, 0, 0, 100, 100, 100, 11, 12, 100, 100})
	step(t, o, b, write.Done, 1)
	holds(t, "the sequence", b, []uint64{0, 0, 0, 0, 8, 100, 100, 11, 12, 100, 100})
	stands(t, "what others leave", o, 4, 5)
}

// P8.2: a nil bank, ahead of each access: it breaks there, for good, and nothing is undone.
func TestNilBank(t *testing.T) {
	for at := range 5 {
		b := roomFor(t, ordinary(), 0)
		o := begin(t, ordinary(), record(2, 1), 3)
		for range at {
			step(t, o, b, write.Busy, 1)
		}
		want := all(b)
		if how := o.Step(nil); how != write.Broke {
			t.Fatalf("behind %d steps: %d", at, how)
		}
		step(t, o, b, write.Broke, 0)
		step(t, o, nil, write.Broke, 0)
		holds(t, "broke", b, want)
		stands(t, "broke", o, 0, at)
	}
}

// P8.2: a bank that is too small, ahead of each access: what it has is not touched.
func TestSmallBank(t *testing.T) {
	for at, size := range []int{4, 4, 7, 8, 4} { // generation 1 is at 7 and 8
		for small := 1; small <= size; small++ {
			b, e := bank.New(small)
			if e != api.OK {
				t.Fatal(e)
			}
			big := roomFor(t, ordinary(), 0)
			o := begin(t, ordinary(), record(2, 1), 3)
			for range at {
				step(t, o, big, write.Busy, 1)
			}
			step(t, o, b, write.Broke, 0)
			holds(t, "broke", b, make([]uint64, small))
			want := all(big)
			step(t, o, big, write.Broke, 0)
			holds(t, "broke", big, want)
			stands(t, "broke", o, 0, at)
		}
	}
}

// P8.2: a bank that ends within a place: the words ahead of its end are laid, and the sequence stays held.
func TestBankEndsWithinAPlace(t *testing.T) {
	s := spotOf(4, 3)
	for size := s.First; size <= s.First+12; size++ {
		for gen := uint64(1); gen <= 6; gen++ {
			b, _ := bank.New(size)
			b.Store(s.Seq, 2*gen-2)
			o := begin(t, s, record(4, gen), 2)
			how := finish(t, o, b)
			room := min(max(size-(s.First+4*int(gen%3)), 0), 4)
			switch {
			case room == 4 && (how != write.Done || o.Gen() != gen || o.Steps() != 7 || b.Peek(s.Seq) != 2*gen):
				t.Fatalf("%d words, generation %d: %d", size, gen, how)
			case room < 4 && (how != write.Broke || o.Gen() != 0 || o.Steps() != 2+room || b.Peek(s.Seq) != 2*gen-1):
				t.Fatalf("%d words, generation %d: %d, %d steps", size, gen, how, o.Steps())
			}
		}
	}
}

// P8.2: spots that are right, with words that no bank has, break where these are met; the owners' word is not met at all.
func TestSpotsBeyondABank(t *testing.T) {
	b, e := bank.New(api.MaxBank)
	if e != api.OK {
		t.Fatal(e)
	}
	for _, c := range []struct {
		s          plan.Spot
		how, steps int
	}{
		{plan.Spot{Owners: 5, Seq: 1048576, First: 7, Words: 1, Depth: 2}, write.Broke, 0},
		{plan.Spot{Owners: 5, Seq: 6, First: 1048576, Words: 1, Depth: 2}, write.Broke, 2},
		{plan.Spot{Owners: 5, Seq: 8, First: 1048575, Words: 1, Depth: 2}, write.Broke, 2}, // generation 1 lies one further
		{plan.Spot{Owners: 5, Seq: 9, First: 1048573, Words: 2, Depth: 2}, write.Broke, 3},
		{plan.Spot{Owners: 5, Seq: 10, First: 1048572, Words: 2, Depth: 2}, write.Done, 5},
		{plan.Spot{Owners: 1048576, Seq: 0, First: 20, Words: 1, Depth: 2}, write.Done, 4},
		{plan.Spot{Owners: 0, Seq: 1048575, First: 30, Words: 1, Depth: 2}, write.Done, 4},
		{plan.Spot{Owners: 0, Seq: 40, First: 0, Words: 1, Depth: 2}, write.Done, 4},
	} {
		o := begin(t, c.s, record(c.s.Words, 1), 1)
		if how := finish(t, o, b); how != c.how || o.Steps() != c.steps {
			t.Errorf("%+v: %d, %d steps, not %d, %d", c.s, how, o.Steps(), c.how, c.steps)
		}
	}
}

// P8.2: what has ended stays as it ended, whatever bank is handed in.
func TestEndedOnes(t *testing.T) {
	for _, how := range []int{write.Done, write.Spent, write.Broke} {
		b, gen := roomFor(t, ordinary(), 0), uint64(0)
		o := begin(t, ordinary(), record(2, 1), 1)
		switch how {
		case write.Done:
			gen = 1
		case write.Spent:
			b.Store(4, 1)
		case write.Broke:
			o.Step(nil)
		}
		if got := finish(t, o, b); got != how {
			t.Fatalf("%d, not %d", got, how)
		}
		steps := o.Steps()
		other := roomFor(t, ordinary(), 10)
		for _, x := range []*bank.Bank{b, other, nil, b, other} {
			var want []uint64
			if x != nil {
				want = all(x)
			}
			touches := x.Touches()
			if got := o.Step(x); got != how || x.Touches() != touches {
				t.Errorf("ended %d: %d, %d accesses", how, got, x.Touches()-touches)
			}
			holds(t, "ended", x, want)
			stands(t, "ended", o, gen, steps)
		}
	}
}

// P8.2: a nil publishing.
func TestNilPublishing(t *testing.T) {
	var o *write.Op
	b := roomFor(t, ordinary(), 0)
	want, touches := all(b), b.Touches()
	for _, x := range []*bank.Bank{b, nil, b} {
		if how := o.Step(x); how != write.Broke {
			t.Errorf("Step: %d", how)
		}
		stands(t, "nil", o, 0, 0)
	}
	holds(t, "nil", b, want)
	if b.Touches() != touches {
		t.Errorf("%d accesses", b.Touches()-touches)
	}
}

// follower goes on as the chapter's table tells, over plain words.
type follower struct {
	s            plan.Spot
	words        []uint64
	tries        int
	line, n      int
	seq          uint64
	how          int
	tried, steps int
}

// step does what the table's line says; whether it was an access.
func (f *follower) step(bank []uint64) bool {
	if f.how != write.Busy {
		return false
	}
	at := f.s.Seq
	if f.line == 3 {
		at = f.s.First + f.s.Words*int((f.seq/2+1)%uint64(f.s.Depth)) + f.n
	}
	if at >= len(bank) {
		f.how = write.Broke
		return false
	}
	f.steps++
	switch {
	case f.line == 1:
		if f.seq, f.line = bank[at], 2; f.seq%2 == 1 {
			f.again()
		}
	case f.line == 2 && bank[at] != f.seq:
		f.again()
	case f.line == 2:
		bank[at], f.line, f.n = f.seq+1, 3, 0
	case f.line == 3:
		bank[at] = f.words[f.n]
		if f.n++; f.n == len(f.words) {
			f.line = 4
		}
	default:
		bank[at], f.how = f.seq+2, write.Done
	}
	return true
}

func (f *follower) again() {
	f.line = 1
	if f.tried++; f.tried == f.tries {
		f.how = write.Spent
	}
}

func (f *follower) gen() uint64 {
	if f.how != write.Done {
		return 0
	}
	return f.seq/2 + 1
}

// P8.2: publishings of spots that may lie across one another and beyond the bank, disturbed by others and by banks that change, against the table.
func TestAgainstTheTable(t *testing.T) {
	r := rand.New(rand.NewPCG(8, 2))
	ends := map[int]int{}
	for round := range 4000 {
		sizes := []int{30, 1 + r.IntN(30), 0}
		banks, plain, touches := make([]*bank.Bank, 3), make([][]uint64, 3), make([]int, 3)
		for i, n := range sizes {
			plain[i] = make([]uint64, n)
			banks[i], _ = bank.New(n) // the last one is nil
		}
		var ops []*write.Op
		var follow []*follower
		for i := range 1 + r.IntN(4) {
			s := plan.Spot{Owners: r.IntN(40), Seq: r.IntN(3), First: r.IntN(12), Words: 1 + r.IntN(4), Depth: 2 + r.IntN(3)}
			f := &follower{s: s, words: record(s.Words, uint64(i)), tries: 1 + r.IntN(3), line: 1}
			follow, ops = append(follow, f), append(ops, begin(t, s, f.words, f.tries))
		}
		for range 60 {
			k, i := 0, r.IntN(len(ops))
			if r.IntN(30) == 0 {
				k = 1 + r.IntN(2)
			}
			if r.IntN(12) == 0 {
				at, x := r.IntN(3), greatest-3+uint64(r.IntN(8))
				banks[0].Store(at, x)
				plain[0][at] = x
				touches[0]++
			}
			if follow[i].step(plain[k]) {
				touches[k]++
			}
			f := follow[i]
			if how := ops[i].Step(banks[k]); how != f.how || ops[i].Gen() != f.gen() || ops[i].Steps() != f.steps {
				t.Fatalf("round %d, %+v: %d, generation %d, %d steps", round, f, how, ops[i].Gen(), ops[i].Steps())
			}
			for k, b := range banks {
				if b.Touches() != touches[k] {
					t.Fatalf("round %d, bank %d: %d accesses, not %d", round, k, b.Touches(), touches[k])
				}
				holds(t, "against the table", b, plain[k])
			}
		}
		for _, f := range follow {
			ends[f.how]++
		}
	}
	for _, how := range []int{write.Done, write.Spent, write.Broke} {
		if ends[how] < 100 {
			t.Errorf("only %d ended %d", ends[how], how)
		}
	}
}
