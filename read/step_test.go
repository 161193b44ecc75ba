package read_test

import (
	"math/rand/v2"
	"slices"
	"testing"

	"aileron/api"
	"aileron/bank"
	"aileron/plan"
	"aileron/read"
)

// step does one step and holds it against how the reading should stand behind it, and how many accesses it should have done. No word of the bank may be turned, and nothing told ahead of the end.
func step(t *testing.T, o *read.Op, b *bank.Bank, how, accesses int) {
	t.Helper()
	steps, touches, words := o.Steps(), b.Touches(), all(b)
	if got := o.Step(b); got != how {
		t.Fatalf("step %d: %d, not %d", steps+1, got, how)
	}
	if o.Steps() != steps+accesses || b.Touches() != touches+accesses {
		t.Fatalf("step %d: %d steps, %d accesses, not %d", steps+1, o.Steps()-steps, b.Touches()-touches, accesses)
	}
	if !slices.Equal(all(b), words) {
		t.Fatalf("step %d: the words are %v, not %v", steps+1, all(b), words)
	}
	if how != read.Done {
		tellsNothing(t, "not done", o, steps+accesses)
	}
}

// loads does one step that should load just this word: a bank that ends ahead of it refuses, one that ends with it does not.
func loads(t *testing.T, again func() *read.Op, b *bank.Bank, at int) {
	t.Helper()
	for _, size := range []int{at, at + 1} {
		part, e := bank.New(size)
		if e != api.OK {
			t.Fatal(e)
		}
		for i := range size {
			part.Store(i, b.Peek(i))
		}
		how := again().Step(part)
		if (how == read.Broke) != (size == at) {
			t.Fatalf("word %d, of a bank of %d words: %d", at, size, how)
		}
	}
}

// The chapter's examples.
func TestExample(t *testing.T) {
	s := plan.Spot{Owners: 9, Seq: 10, First: 11, Words: 2, Depth: 4}
	b, e := bank.New(19)
	if e != api.OK {
		t.Fatal(e)
	}
	o := begin(t, s, 3)
	for at, word := range []int{10, 11, 12, 10} {
		loads(t, func() *read.Op {
			p := begin(t, s, 3)
			for range at {
				p.Step(b)
			}
			return p
		}, b, word)
		how := read.Busy
		if at == 3 {
			how = read.Done
		}
		step(t, o, b, how, 1)
	}
	tells(t, "the example", o, []uint64{0, 0}, 0, 1, 4)
}

// P9.2, P9.3: the table, line by line, of a reading alone: each number of words and of places, and sequences of all sizes, held and not.
func TestTheTable(t *testing.T) {
	for _, words := range []int{1, 2, 3, 5, 63, 64} {
		for depth := 2; depth <= 16; depth++ {
			for _, sequence := range []uint64{0, 1, 2, 3, 4, 5, 8, 11, 28, 29, 30, 31, 32, 33, 34, 1 << 33, 1<<63 - 1, 1 << 63, greatest - 4, greatest - 3, greatest - 2, greatest - 1, greatest} {
				readAlone(t, spotOf(words, depth), sequence)
			}
		}
	}
}

// readAlone goes through a reading that nobody disturbs.
func readAlone(t *testing.T, s plan.Spot, sequence uint64) {
	t.Helper()
	b := full(t, s, sequence)
	o := begin(t, s, 1)
	for range s.Words + 1 {
		step(t, o, b, read.Busy, 1)
	}
	step(t, o, b, read.Done, 1)
	tells(t, "alone", o, standing(s, sequence/2), sequence/2, 1, s.Words+2)
	step(t, o, b, read.Done, 0)
	tells(t, "alone, and once more", o, standing(s, sequence/2), sequence/2, 1, s.Words+2)
}

// P9.2: which word each line of the table loads, in a first try and in another one.
func TestWhichWordsAreLoaded(t *testing.T) {
	for _, s := range []plan.Spot{ordinary(), spotOf(1, 2), spotOf(5, 2), spotOf(64, 2), {Owners: 0, Seq: 9, First: 1, Words: 2, Depth: 4}} {
		for earlier := range 3 {
			for gen := range uint64(s.Depth + 2) {
				b, e := bank.New(max(s.First+s.Words*s.Depth, s.Seq+1))
				if e != api.OK {
					t.Fatal(e)
				}
				b.Store(s.Seq, 2*gen)
				place := s.First + s.Words*int(gen%uint64(s.Depth))
				for at := range s.Words + 2 {
					word := place + at - 1
					if at == 0 || at == s.Words+1 {
						word = s.Seq
					}
					loads(t, func() *read.Op { return farReading(t, s, earlier, at, b) }, b, word)
				}
			}
		}
	}
}

// farReading is a reading that had so many tries in another bank, and then did so many steps of the next one in this bank.
func farReading(t *testing.T, s plan.Spot, tries, steps int, b *bank.Bank) *read.Op {
	t.Helper()
	o, other := begin(t, s, tries+1), b.Clone()
	for range tries {
		failTry(t, o, other, s, read.Busy)
	}
	for range steps {
		step(t, o, b, read.Busy, 1)
	}
	return o
}

// failTry does a whole try, and lets it fail: just so many records more are published that what was read is not whole. How is what it comes to.
func failTry(t *testing.T, o *read.Op, b *bank.Bank, s plan.Spot, how int) {
	t.Helper()
	for range s.Words + 1 {
		step(t, o, b, read.Busy, 1)
	}
	b.Add(s.Seq, 2*uint64(s.Depth))
	step(t, o, b, how, 1)
}

// P9.2: a sequence that is turned between the first Load and the last one, by each number of records, whole ones and one under way; the record is kept or not as P7.3 tells.
func TestTurnedMeanwhile(t *testing.T) {
	for depth := uint64(2); depth <= 16; depth++ {
		for _, first := range []uint64{0, 1, 2, 3, 6, 7, 30, 31, 1 << 40, 1<<40 + 1, greatest - 80} {
			for by := range 2*depth + 6 {
				s := spotOf(1, int(depth))
				b := full(t, s, first)
				o := begin(t, s, 2)
				step(t, o, b, read.Busy, 1)
				step(t, o, b, read.Busy, 1)
				b.Store(s.Seq, first+by)
				gen := first / 2
				under := (first + by + 1) / 2 // the last record whose place is written into
				if under < gen+depth {
					step(t, o, b, read.Done, 1)
					tells(t, "just kept", o, standing(s, gen), gen, 1, 3)
					continue
				}
				step(t, o, b, read.Busy, 1)
				for range 2 {
					step(t, o, b, read.Busy, 1)
				}
				step(t, o, b, read.Done, 1)
				tells(t, "not kept", o, standing(s, (first+by)/2), (first+by)/2, 4, 6)
			}
		}
	}
}

// P9.2: the edges of that, written out: a depth of 2 and of 16.
func TestTurnedMeanwhileAtTheEdges(t *testing.T) {
	for _, c := range []struct {
		depth       int
		first, last uint64
		how         int
	}{
		{2, 0, 0, read.Done}, {2, 0, 2, read.Done}, {2, 0, 3, read.Spent}, {2, 0, 4, read.Spent},
		{2, 1, 1, read.Done}, {2, 1, 2, read.Done}, {2, 1, 3, read.Spent},
		{2, 10, 12, read.Done}, {2, 10, 13, read.Spent}, {2, 11, 12, read.Done}, {2, 11, 13, read.Spent},
		{16, 0, 29, read.Done}, {16, 0, 30, read.Done}, {16, 0, 31, read.Spent}, {16, 0, 32, read.Spent},
		{16, 100, 130, read.Done}, {16, 100, 131, read.Spent}, {16, 101, 130, read.Done}, {16, 101, 131, read.Spent},
		{16, 100, greatest, read.Spent},
		// A generation that is above the sequence was not published: so it is where numbers went round.
		{2, 2, 1, read.Spent}, {2, 2, 0, read.Spent}, {16, 100, 99, read.Spent}, {16, 101, 100, read.Done},
		{2, greatest, greatest, read.Done}, {2, greatest, greatest - 1, read.Done}, {2, greatest - 1, greatest, read.Done}, {2, greatest - 2, greatest - 1, read.Done}, {2, greatest - 2, greatest, read.Spent},
		{2, greatest, 0, read.Spent}, {2, greatest - 1, 0, read.Spent}, {2, greatest, 1, read.Spent}, {16, greatest - 1, 0, read.Spent}, {16, greatest - 1, 2, read.Spent}, {16, greatest - 30, greatest - 1, read.Done}, {16, greatest - 30, greatest, read.Spent}, {16, greatest - 30, 0, read.Spent},
	} {
		s := spotOf(2, c.depth)
		b := full(t, s, c.first)
		o := begin(t, s, 1)
		for range 3 {
			step(t, o, b, read.Busy, 1)
		}
		b.Store(s.Seq, c.last)
		if how := o.Step(b); how != c.how {
			t.Errorf("depth %d, from %d to %d: %d", c.depth, c.first, c.last, how)
			continue
		}
		if c.how == read.Done {
			tells(t, "kept", o, standing(s, c.first/2), c.first/2, 1, 4)
		} else {
			tellsNothing(t, "not kept", o, 4)
		}
	}
}

// P9.2: it reads what is the newest one with its first Load, whatever is newer with the later ones; a sequence that is turned only while the words are loaded is not looked at.
func TestTurnedBetweenTheWords(t *testing.T) {
	s := spotOf(4, 3)
	b := full(t, s, 6)
	o := begin(t, s, 1)
	step(t, o, b, read.Busy, 1)
	for _, sequence := range []uint64{40, 0, 7, 1} {
		b.Store(s.Seq, sequence)
		step(t, o, b, read.Busy, 1)
	}
	b.Store(s.Seq, 11)
	step(t, o, b, read.Spent, 1)

	b = full(t, s, 6)
	o = begin(t, s, 1)
	step(t, o, b, read.Busy, 1)
	for i, sequence := range []uint64{40, 0, 7, 1} {
		b.Store(s.Seq, sequence)
		b.Store(2+i, 50+uint64(i)) // generation 3 lies in the first place
		step(t, o, b, read.Busy, 1)
		b.Store(2+i, 60)
	}
	b.Store(s.Seq, 8)
	step(t, o, b, read.Done, 1)
	tells(t, "words as they were loaded", o, []uint64{50, 51, 52, 53}, 3, 1, 6)
}

// P9.2: tries that fail, as often as it may try, spend it, and take Most.
func TestSpent(t *testing.T) {
	for _, s := range []plan.Spot{spotOf(1, 2), ordinary(), spotOf(1, 16), spotOf(64, 2)} {
		for tries := 1; tries <= 16; tries++ {
			b := full(t, s, uint64(tries))
			o := begin(t, s, tries)
			for range tries - 1 {
				failTry(t, o, b, s, read.Busy)
			}
			failTry(t, o, b, s, read.Spent)
			step(t, o, b, read.Spent, 0)
			tellsNothing(t, "spent", o, read.Most(s, tries))
		}
	}
}

// P9.2, P9.3: tries that fail, once less than it may try: the last one is Done, and tells what it loaded alone.
func TestTheLastTry(t *testing.T) {
	for _, s := range []plan.Spot{spotOf(1, 2), ordinary(), spotOf(1, 16), spotOf(64, 2)} {
		for tries := 1; tries <= 16; tries++ {
			for failed := range tries {
				b := full(t, s, 1)
				o := begin(t, s, tries)
				for range failed {
					failTry(t, o, b, s, read.Busy)
				}
				b.Store(s.Seq, 90)
				for range s.Words + 1 {
					step(t, o, b, read.Busy, 1)
				}
				b.Store(s.Seq, 92)
				step(t, o, b, read.Done, 1)
				tells(t, "the last try", o, standing(s, 45), 45, failed*(s.Words+2)+1, (failed+1)*(s.Words+2))
			}
		}
	}
}

// P9.2: a nil bank breaks it at each line, in each try; a bank that is right does not mend it.
func TestNilBank(t *testing.T) {
	for tries := range 3 {
		for at := range 4 {
			b := full(t, ordinary(), 2)
			o := farReading(t, ordinary(), tries, at, b)
			if how := o.Step(nil); how != read.Broke {
				t.Fatalf("try %d, %d steps: %d", tries+1, at, how)
			}
			tellsNothing(t, "broke", o, 4*tries+at)
			step(t, o, b, read.Broke, 0)
			tellsNothing(t, "broke, and once more", o, 4*tries+at)
		}
	}
}

// P9.2: so does a bank that is too small.
func TestSmallBank(t *testing.T) {
	for tries := range 3 {
		for at, size := range []int{4, 7, 8, 4} { // generation 1 is at 7 and 8
			for small := 1; small <= size; small++ {
				b, e := bank.New(small)
				if e != api.OK {
					t.Fatal(e)
				}
				right := full(t, ordinary(), 2)
				o := farReading(t, ordinary(), tries, at, right)
				step(t, o, b, read.Broke, 0)
				step(t, o, right, read.Broke, 0)
				tellsNothing(t, "broke", o, 4*tries+at)
			}
		}
	}
}

// P9.2: a bank that ends within the places: records that lie ahead of its end are read, others break it at the first word that is missing.
func TestBankEndsWithinThePlaces(t *testing.T) {
	s := spotOf(4, 3)
	for size := s.First; size <= s.First+12; size++ {
		for gen := range uint64(6) {
			b, _ := bank.New(size)
			b.Store(s.Seq, 2*gen)
			o := begin(t, s, 2)
			how := finish(t, o, b)
			room := min(max(size-(s.First+4*int(gen%3)), 0), 4)
			if room == 4 && (how != read.Done || o.Steps() != 6) || room < 4 && (how != read.Broke || o.Steps() != 1+room) {
				t.Fatalf("%d words, generation %d: %d, %d steps", size, gen, how, o.Steps())
			}
		}
	}
}

// P9.2: spots that are right, with words that no bank has, break where these are met; the owners' word is not met at all.
func TestSpotsBeyondABank(t *testing.T) {
	b, e := bank.New(api.MaxBank)
	if e != api.OK {
		t.Fatal(e)
	}
	for _, c := range []struct {
		s          plan.Spot
		how, steps int
	}{
		{plan.Spot{Owners: 5, Seq: 1048576, First: 7, Words: 1, Depth: 2}, read.Broke, 0},
		{plan.Spot{Owners: 5, Seq: 6, First: 1048576, Words: 1, Depth: 2}, read.Broke, 1},
		{plan.Spot{Owners: 5, Seq: 6, First: 1048575, Words: 1, Depth: 2}, read.Done, 3},
		{plan.Spot{Owners: 5, Seq: 6, First: 1048575, Words: 2, Depth: 2}, read.Broke, 2},
		{plan.Spot{Owners: 5, Seq: 6, First: 1048512, Words: 64, Depth: 16}, read.Done, 66},
		{plan.Spot{Owners: 1048576, Seq: 0, First: 20, Words: 1, Depth: 2}, read.Done, 3},
		{plan.Spot{Owners: 0, Seq: 1048575, First: 30, Words: 1, Depth: 2}, read.Done, 3},
		{plan.Spot{Owners: 0, Seq: 40, First: 0, Words: 1, Depth: 2}, read.Done, 3},
	} {
		o := begin(t, c.s, 1)
		if how := finish(t, o, b); how != c.how || o.Steps() != c.steps {
			t.Errorf("%+v: %d, %d steps, not %d, %d", c.s, how, o.Steps(), c.how, c.steps)
		}
	}
}

// P9.2: what has ended stays as it ended, whatever bank is handed in.
func TestEndedOnes(t *testing.T) {
	for _, how := range []int{read.Done, read.Spent, read.Broke} {
		b := full(t, ordinary(), 2)
		o := begin(t, ordinary(), 1)
		for range 3 {
			step(t, o, b, read.Busy, 1)
		}
		last, accesses := b, 1
		switch how {
		case read.Spent:
			b.Add(4, 60)
		case read.Broke:
			last, accesses = nil, 0
		}
		step(t, o, last, how, accesses)
		words, gen := o.Got()
		at, steps := o.At(), o.Steps()
		other := full(t, ordinary(), 10)
		for _, x := range []*bank.Bank{b, other, nil, b, other} {
			step(t, o, x, how, 0)
			tells(t, "ended", o, words, gen, at, steps)
		}
	}
}

// P9.2, P9.3: a nil reading.
func TestNilReading(t *testing.T) {
	var o *read.Op
	b := full(t, ordinary(), 2)
	for _, x := range []*bank.Bank{b, nil, b} {
		step(t, o, x, read.Broke, 0)
		tellsNothing(t, "nil", o, 0)
	}
}

// follower goes on as the chapter's table tells, over plain words.
type follower struct {
	s            plan.Spot
	tries        int
	line, n      int
	gen          uint64
	words        []uint64
	how, at      int
	tried, steps int
}

// step does what the table's line says; whether it was an access.
func (f *follower) step(bank []uint64) bool {
	if f.how != read.Busy {
		return false
	}
	at := f.s.Seq
	if f.line == 2 {
		at = f.s.First + f.s.Words*int(f.gen%uint64(f.s.Depth)) + f.n
	}
	if at >= len(bank) {
		f.how = read.Broke
		return false
	}
	f.steps++
	switch f.line {
	case 1:
		f.gen, f.n, f.words, f.at, f.line = bank[at]/2, 0, nil, f.steps, 2
	case 2:
		f.words = append(f.words, bank[at])
		if f.n++; f.n == f.s.Words {
			f.line = 3
		}
	default:
		f.last(bank[at])
	}
	return true
}

// last does what the table's third line says of a sequence.
func (f *follower) last(sequence uint64) {
	under := sequence/2 + sequence%2
	if sequence/2 >= f.gen && under-f.gen < uint64(f.s.Depth) {
		f.how = read.Done
		return
	}
	f.line = 1
	if f.tried++; f.tried == f.tries {
		f.how = read.Spent
	}
}

// holds holds a reading against the follower.
func (f *follower) holds(t *testing.T, o *read.Op) {
	t.Helper()
	if f.how == read.Done {
		tells(t, "against the table", o, f.words, f.gen, f.at, f.steps)
		return
	}
	tellsNothing(t, "against the table", o, f.steps)
}

// P9.2, P9.3: readings of spots that may lie across one another and beyond the bank, disturbed by others and by banks that change, against the table.
func TestAgainstTheTable(t *testing.T) {
	r := rand.New(rand.NewPCG(9, 2))
	ends := map[int]int{}
	for range 4000 {
		sizes := []int{30, 1 + r.IntN(30), 0}
		banks, plain := make([]*bank.Bank, 3), make([][]uint64, 3)
		for i, n := range sizes {
			plain[i] = make([]uint64, n)
			banks[i], _ = bank.New(n) // the last one is nil
		}
		var ops []*read.Op
		var follow []*follower
		for range 1 + r.IntN(4) {
			s := plan.Spot{Owners: r.IntN(40), Seq: r.IntN(3), First: r.IntN(12), Words: 1 + r.IntN(4), Depth: 2 + r.IntN(3)}
			f := &follower{s: s, tries: 1 + r.IntN(3), line: 1}
			follow, ops = append(follow, f), append(ops, begin(t, s, f.tries))
		}
		for range 60 {
			k, i := 0, r.IntN(len(ops))
			if r.IntN(40) == 0 {
				k = 1 + r.IntN(2)
			}
			if r.IntN(3) == 0 {
				at, by := r.IntN(10), uint64(r.IntN(4))
				if r.IntN(20) == 0 {
					by = greatest - 3
				}
				banks[0].Add(at, by)
				plain[0][at] += by
			}
			accesses := 0
			if follow[i].step(plain[k]) {
				accesses = 1
			}
			step(t, ops[i], banks[k], follow[i].how, accesses)
			follow[i].holds(t, ops[i])
		}
		for _, f := range follow {
			ends[f.how]++
		}
	}
	for _, how := range []int{read.Done, read.Spent, read.Broke} {
		if ends[how] < 100 {
			t.Errorf("only %d ended %d, of %v", ends[how], how, ends)
		}
	}
}
