package snap_test

import (
	"math/rand/v2"
	"slices"
	"testing"

	"aileron/api"
	"aileron/bank"
	"aileron/plan"
	"aileron/snap"
	"aileron/write"
)

// step does one step and holds it against how the snapshot should stand behind it, and how many accesses it should have done. No word of the bank may be turned, and nothing told ahead of the end.
func step(t *testing.T, o *snap.Op, b *bank.Bank, how, accesses int) {
	t.Helper()
	steps, touches, words := o.Steps(), b.Touches(), all(b)
	if got := o.Step(b); got != how {
		t.Fatalf("step %d: %d, not %d", steps+1, got, how)
	}
	if o.Steps() != steps+accesses || b.Touches() != touches+accesses {
		t.Fatalf("step %d: %d steps, %d accesses, not %d", steps+1, o.Steps()-steps, b.Touches()-touches, accesses)
	}
	if !slices.Equal(all(b), words) {
		t.Fatalf("step %d: the words are %v, not %v", steps+1, all(b), words)
	}
	if how != snap.Done {
		tellsNothing(t, "not done", o, steps+accesses)
	}
}

// busy does so many steps that come to no end.
func busy(t *testing.T, o *snap.Op, b *bank.Bank, steps int) {
	t.Helper()
	for range steps {
		step(t, o, b, snap.Busy, 1)
	}
}

// failTry does a try, and lets it fail at the k-th spot: one more record of that one is published meanwhile. How is what it comes to.
func failTry(t *testing.T, o *snap.Op, b *bank.Bank, l []plan.Spot, k, how int) {
	t.Helper()
	busy(t, o, b, len(l)+width(l)+k)
	b.Add(l[k].Seq, 2)
	step(t, o, b, how, 1)
}

// far is a snapshot that had so many tries in another bank, and then did so many steps of the next one in this bank.
func far(t *testing.T, l []plan.Spot, tries, steps int, b *bank.Bank) *snap.Op {
	t.Helper()
	o, other := begin(t, l, tries+1), b.Clone()
	for i := range tries {
		failTry(t, o, other, l, i%len(l), snap.Busy)
	}
	busy(t, o, b, steps)
	return o
}

// loads does one step that should load just this word: a bank that ends ahead of it refuses, one that ends with it does not.
func loads(t *testing.T, again func() *snap.Op, b *bank.Bank, at int) {
	t.Helper()
	for _, size := range []int{at, at + 1} {
		if size == 0 {
			continue
		}
		part, e := bank.New(size)
		if e != api.OK {
			t.Fatal(e)
		}
		for i := range size {
			part.Store(i, b.Peek(i))
		}
		how := again().Step(part)
		if (how == snap.Broke) != (size == at) {
			t.Fatalf("word %d, of a bank of %d words: %d", at, size, how)
		}
	}
}

// course are the words that a try loads, one behind the other, as generations stand.
func course(l []plan.Spot, gens []uint64) []int {
	var at []int
	for _, s := range l {
		at = append(at, s.Seq)
	}
	for i, s := range l {
		for n := range s.Words {
			at = append(at, place(s, gens[i])+n)
		}
	}
	for _, s := range l {
		at = append(at, s.Seq)
	}
	return at
}

// The chapter's example.
func TestExample(t *testing.T) {
	l := lay(shape{1, 2}, shape{1, 2})
	b := full(t, l, 0)
	o := begin(t, l, 1)
	for i, word := range []int{2, 6, 3, 7, 2, 6} {
		loads(t, func() *snap.Op { return far(t, l, 0, i, b) }, b, word)
		how := snap.Busy
		if i == 5 {
			how = snap.Done
		}
		step(t, o, b, how, 1)
	}
	tells(t, "the example", o, []uint64{1003, 1007}, []uint64{0, 0}, 2, 6)
	b, _ = bank.New(9)
	o = begin(t, l, 16)
	if how := finish(t, o, b); how != snap.Done {
		t.Fatal(how)
	}
	tells(t, "a new bank", o, []uint64{0, 0}, []uint64{0, 0}, 2, 6)
}

// P10.2, P10.3: the table, line by line, of a snapshot alone: numbers of spots, of words and of places, and sequences of all sizes, held and not.
func TestTheTable(t *testing.T) {
	sequences := []uint64{0, 1, 2, 3, 4, 5, 8, 11, 28, 29, 30, 31, 32, 33, 34, 1 << 33, 1<<63 - 1, 1 << 63, greatest - 4, greatest - 3, greatest - 2, greatest - 1, greatest}
	for _, words := range []int{1, 2, 3, 64} {
		for depth := 2; depth <= 16; depth++ {
			for i, sequence := range sequences {
				next := sequences[(i+7)%len(sequences)]
				alone(t, lay(shape{words, depth}), sequence)
				alone(t, lay(shape{words, depth}, shape{1, 18 - depth}), sequence, next)
				alone(t, lay(shape{2, 2}, shape{words, depth}, shape{1, 3}), next, sequence, 6)
			}
		}
	}
	alone(t, many(64, shape{1, 2}), sequences...)
	alone(t, many(64, shape{3, 5}), sequences...)
	alone(t, many(64, shape{64, 16}), sequences...)
}

// alone goes through a snapshot that nobody disturbs.
func alone(t *testing.T, l []plan.Spot, sequences ...uint64) {
	t.Helper()
	b, o := full(t, l, sequences...), begin(t, l, 1)
	most := 2*len(l) + width(l)
	was := all(b)
	for i := range most - 1 {
		if how := o.Step(b); how != snap.Busy || o.Steps() != i+1 || b.Touches() != len(was)+len(l)+i+1 {
			t.Fatalf("%+v, step %d: %d", l, i+1, how)
		}
	}
	step(t, o, b, snap.Done, 1)
	gens := halves(l, sequences...)
	words := standing(l, gens)
	tells(t, "alone", o, words, gens, len(l), most)
	step(t, o, b, snap.Done, 0)
	tells(t, "alone, and once more", o, words, gens, len(l), most)
	if !slices.Equal(all(b), was) {
		t.Fatalf("%+v: the bank was turned", l)
	}
}

// P10.2: which word each line of the table loads, in a first try and in later ones.
func TestWhichWordsAreLoaded(t *testing.T) {
	back := ordinary()
	slices.Reverse(back)
	apart := []plan.Spot{{Owners: 0, Seq: 30, First: 1, Words: 2, Depth: 4}, {Owners: 0, Seq: 0, First: 20, Words: 3, Depth: 3}}
	for _, l := range [][]plan.Spot{ordinary(), back, apart, ordinary()[1:2], lay(shape{5, 2}, shape{1, 16}), append(ordinary(), ordinary()[0])} {
		for tries := range 4 {
			for _, sequences := range [][]uint64{{0}, {2}, {5, 2, 8}, {6, 9, 3}, {11, 14, 19}} {
				b := full(t, l, sequences...)
				var gens []uint64
				for _, s := range l {
					gens = append(gens, b.Peek(s.Seq)/2)
				}
				for i, word := range course(l, gens) {
					loads(t, func() *snap.Op { return far(t, l, tries, i, b) }, b, word)
				}
			}
		}
	}
}

// P10.2: a sequence that is taken, or given, between the first Load and the last one, of each of the spots, behind each step: one that is taken is the same record still, one that is given is not.
func TestTurnedMeanwhile(t *testing.T) {
	l := ordinary()
	most := 2*len(l) + width(l)
	for _, first := range []uint64{0, 1, 2, 3, 6, 7, 30, 31, 1 << 40, 1<<40 + 1, greatest - 7, greatest - 6} {
		for by := range uint64(6) {
			for k := range l {
				for behind := 1; behind < most; behind++ {
					between := behind > k && behind < most-len(l)+k+1 // else it is loaded turned both times, or not at all
					fails := between && (first+by)/2 != first/2
					turnedBy(t, k, behind, first, by, fails)
				}
			}
		}
	}
}

// turnedBy goes through a snapshot of one try, and turns a sequence by some more behind so many steps.
func turnedBy(t *testing.T, k, behind int, first, by uint64, fails bool) {
	t.Helper()
	l := ordinary()
	b, o := full(t, l, first), begin(t, l, 1)
	busy(t, o, b, behind)
	b.Add(l[k].Seq, by)
	how := finish(t, o, b)
	if fails {
		if how != snap.Spent {
			t.Fatalf("spot %d, behind %d steps, from %d by %d: %d", k, behind, first, by, how)
		}
		tellsNothing(t, "turned", o, 9+k+1)
		return
	}
	if how != snap.Done {
		t.Fatalf("spot %d, behind %d steps, from %d by %d: %d", k, behind, first, by, how)
	}
	gens := halves(l, first)
	if behind <= k {
		gens[k] = (first + by) / 2
	}
	tells(t, "turned", o, standing(l, gens), gens, 3, 12)
}

// P10.2: the edges of that, written out: held or not is not looked at, only which record is the newest one.
func TestTurnedMeanwhileAtTheEdges(t *testing.T) {
	for _, c := range []struct {
		first, last uint64
		how         int
	}{
		{0, 0, snap.Done}, {0, 1, snap.Done}, {0, 2, snap.Spent}, {0, 3, snap.Spent}, {1, 1, snap.Done}, {1, 0, snap.Done}, {1, 2, snap.Spent}, {1, 3, snap.Spent},
		{10, 11, snap.Done}, {11, 10, snap.Done}, {10, 12, snap.Spent}, {11, 12, snap.Spent}, {10, 9, snap.Spent}, {11, 9, snap.Spent}, {10, 0, snap.Spent}, {10, 26, snap.Spent}, {10, 42, snap.Spent}, {10, 1 << 40, snap.Spent},
		{greatest, greatest, snap.Done}, {greatest, greatest - 1, snap.Done}, {greatest - 1, greatest, snap.Done}, {greatest - 1, greatest - 1, snap.Done}, {greatest - 2, greatest - 1, snap.Spent}, {greatest - 1, greatest - 2, snap.Spent},
		{10, 10 + 1<<33, snap.Spent}, {10 + 1<<40, 10, snap.Spent}, {11, 11 + 1<<63, snap.Spent},
		{greatest, 0, snap.Spent}, {greatest - 1, 0, snap.Spent}, {0, greatest, snap.Spent}, {1, greatest - 1, snap.Spent}, {greatest, 1, snap.Spent},
	} {
		for _, l := range [][]plan.Spot{lay(shape{2, 2}), lay(shape{1, 16}), lay(shape{1, 2}, shape{1, 3}), many(64, shape{1, 2})} {
			for _, k := range []int{0, len(l) - 1} {
				b, o := full(t, l, c.first), begin(t, l, 1)
				busy(t, o, b, len(l)+width(l))
				b.Store(l[k].Seq, c.last)
				if how := finish(t, o, b); how != c.how {
					t.Fatalf("%d spots, the one at %d from %d to %d: %d", len(l), k, c.first, c.last, how)
				}
				if c.how == snap.Done {
					gens := halves(l, c.first)
					tells(t, "the same", o, standing(l, gens), gens, len(l), 2*len(l)+width(l))
				} else {
					tellsNothing(t, "not the same", o, len(l)+width(l)+k+1)
				}
			}
		}
	}
}

// P10.2, P10.3: words are told as they were loaded, of the records that the first Loads told; a sequence that is turned, and turned back, while the words are loaded is not looked at.
func TestTurnedBetweenTheWords(t *testing.T) {
	l := lay(shape{2, 3}, shape{2, 2})
	b, o := full(t, l, 8, 6), begin(t, l, 1)
	busy(t, o, b, 2)
	for i, at := range []int{l[0].First + 2, l[0].First + 3, l[1].First + 2, l[1].First + 3} { // generation 4 of 3 places, and 3 of 2
		b.Store(l[0].Seq, []uint64{40, 0, 7, 1}[i])
		b.Store(l[1].Seq, []uint64{9, 50, greatest, 0}[i])
		b.Store(at, 50+uint64(i))
		step(t, o, b, snap.Busy, 1)
		b.Store(at, 60)
	}
	b.Store(l[0].Seq, 8)
	b.Store(l[1].Seq, 7)
	step(t, o, b, snap.Busy, 1)
	b.Store(l[0].Seq, 70)
	step(t, o, b, snap.Done, 1)
	tells(t, "words as they were loaded", o, []uint64{50, 51, 52, 53}, []uint64{4, 3}, 2, 8)
}

// P10.2: the same spot twice: its record is told twice, and is to be the same one throughout.
func TestTheSameSpotTwice(t *testing.T) {
	s := ordinary()[0]
	l := []plan.Spot{s, ordinary()[1], s}
	b, o := full(t, l, 4), begin(t, l, 2)
	busy(t, o, b, 10)
	step(t, o, b, snap.Done, 1)
	tells(t, "twice", o, standing(l, []uint64{2, 2, 2}), []uint64{2, 2, 2}, 3, 11)

	// A record comes between the two first Loads of it: the first one of the last Loads finds another one.
	b, o = full(t, l, 4), begin(t, l, 2)
	busy(t, o, b, 2)
	b.Store(s.Seq, 6)
	busy(t, o, b, 7)
	busy(t, o, b, 10)
	step(t, o, b, snap.Done, 1)
	tells(t, "another one", o, standing(l, []uint64{3, 2, 3}), []uint64{3, 2, 3}, 12, 20)

	// Only between the two last Loads of it: the later one finds another one.
	b, o = full(t, l, 4), begin(t, l, 1)
	busy(t, o, b, 10)
	b.Store(s.Seq, 6)
	step(t, o, b, snap.Spent, 1)

	for _, n := range []int{2, 64} {
		l := slices.Repeat([]plan.Spot{s}, n)
		b, o := full(t, l, 5), begin(t, l, 1)
		busy(t, o, b, 4*n-1)
		step(t, o, b, snap.Done, 1)
		gens := slices.Repeat([]uint64{2}, n)
		tells(t, "often", o, standing(l, gens), gens, n, 4*n)
	}
}

// P10.2: tries that fail, at each of the spots, as often as it may try, spend it; at the last spot they take Most.
func TestSpent(t *testing.T) {
	for _, l := range [][]plan.Spot{ordinary(), lay(shape{1, 2}), lay(shape{64, 16}, shape{1, 2}), many(64, shape{1, 2})} {
		for tries := 1; tries <= 16; tries++ {
			for _, k := range []int{0, len(l) / 2, len(l) - 1} {
				b, o := full(t, l, uint64(tries)), begin(t, l, tries)
				for range tries - 1 {
					failTry(t, o, b, l, k, snap.Busy)
				}
				failTry(t, o, b, l, k, snap.Spent)
				step(t, o, b, snap.Spent, 0)
				tellsNothing(t, "spent", o, snap.Most(l, tries)-tries*(len(l)-1-k))
			}
		}
	}
}

// P10.2, P10.3: tries that fail, up to once less than it may try: the last one is Done, and tells what it loaded alone.
func TestTheLastTry(t *testing.T) {
	for _, l := range [][]plan.Spot{ordinary(), lay(shape{1, 2}), lay(shape{64, 16}, shape{1, 2}), many(20, shape{1, 2})} {
		for tries := 1; tries <= 16; tries++ {
			for failed := range tries {
				b, o := full(t, l, 1), begin(t, l, tries)
				steps := 0
				for i := range failed {
					failTry(t, o, b, l, i%len(l), snap.Busy)
					steps += len(l) + width(l) + i%len(l) + 1
				}
				var gens []uint64
				for i, s := range l {
					gens = append(gens, 45+uint64(i))
					b.Store(s.Seq, 2*gens[i]+1)
				}
				busy(t, o, b, 2*len(l)+width(l)-1)
				step(t, o, b, snap.Done, 1)
				tells(t, "the last try", o, standing(l, gens), gens, steps+len(l), steps+2*len(l)+width(l))
			}
		}
	}
}

// P10.2: a nil bank breaks it at each step of each line, in each try; a bank that is right does not mend it.
func TestNilBank(t *testing.T) {
	l := ordinary()
	for tries := range 4 {
		for at := range 12 {
			b := full(t, l, 2)
			o := far(t, l, tries, at, b)
			steps := o.Steps()
			step(t, o, nil, snap.Broke, 0)
			step(t, o, b, snap.Broke, 0)
			step(t, o, nil, snap.Broke, 0)
			tellsNothing(t, "broke", o, steps)
		}
	}
}

// P10.2: so does a bank that is too small, at each step of each line.
func TestSmallBank(t *testing.T) {
	l := ordinary()
	for tries := range 4 {
		for at, size := range course(l, []uint64{1, 1, 1}) {
			for _, small := range []int{1, size - 1, size} {
				b, e := bank.New(small)
				if e != api.OK {
					t.Fatal(e)
				}
				right := full(t, l, 2)
				o := far(t, l, tries, at, right)
				steps := o.Steps()
				step(t, o, b, snap.Broke, 0)
				step(t, o, right, snap.Broke, 0)
				tellsNothing(t, "broke", o, steps)
			}
		}
	}
}

// P10.2: a bank that ends within the last spot's places: records that lie ahead of its end are read, others break it at the first word that is missing.
func TestBankEndsWithinThePlaces(t *testing.T) {
	l := lay(shape{1, 2}, shape{4, 3})
	for size := l[1].First; size <= l[1].First+12; size++ {
		for gen := range uint64(6) {
			b, _ := bank.New(size)
			b.Store(l[1].Seq, 2*gen)
			o := begin(t, l, 2)
			how := finish(t, o, b)
			room := min(max(size-place(l[1], gen), 0), 4)
			if room == 4 && (how != snap.Done || o.Steps() != 9) || room < 4 && (how != snap.Broke || o.Steps() != 3+room) {
				t.Fatalf("%d words, generation %d: %d, %d steps", size, gen, how, o.Steps())
			}
		}
	}
}

// P10.2: spots that are right, with words that no bank has, break where these are met; the owners' word is not met at all.
func TestSpotsBeyondABank(t *testing.T) {
	b, e := bank.New(api.MaxBank)
	if e != api.OK {
		t.Fatal(e)
	}
	right := plan.Spot{Owners: 1, Seq: 2, First: 3, Words: 2, Depth: 2}
	for _, c := range []struct {
		s             plan.Spot
		how           int
		ahead, behind int // steps, if the spot stands ahead of one that is right, and if it stands behind it
	}{
		{plan.Spot{Owners: 5, Seq: 1048576, First: 7, Words: 1, Depth: 2}, snap.Broke, 0, 1},
		{plan.Spot{Owners: 5, Seq: 20, First: 1048576, Words: 1, Depth: 2}, snap.Broke, 2, 4},
		{plan.Spot{Owners: 5, Seq: 20, First: 1048575, Words: 1, Depth: 2}, snap.Done, 7, 7},
		{plan.Spot{Owners: 5, Seq: 20, First: 1048575, Words: 2, Depth: 2}, snap.Broke, 3, 5},
		{plan.Spot{Owners: 5, Seq: 20, First: 1048512, Words: 64, Depth: 16}, snap.Done, 70, 70},
		{plan.Spot{Owners: 1048576, Seq: 20, First: 40, Words: 1, Depth: 2}, snap.Done, 7, 7},
		{plan.Spot{Owners: 0, Seq: 1048575, First: 40, Words: 1, Depth: 2}, snap.Done, 7, 7},
		{plan.Spot{Owners: 0, Seq: 0, First: 0, Words: 1, Depth: 2}, snap.Done, 7, 7},
	} {
		for _, ahead := range []bool{true, false} {
			l, steps := []plan.Spot{right, c.s}, c.behind
			if ahead {
				l, steps = []plan.Spot{c.s, right}, c.ahead
			}
			o := begin(t, l, 1)
			if how := finish(t, o, b); how != c.how || o.Steps() != steps {
				t.Errorf("%+v: %d, %d steps, not %d, %d", l, how, o.Steps(), c.how, steps)
			}
		}
	}
}

// P10.2: what has ended stays as it ended, whatever bank is handed in.
func TestEndedOnes(t *testing.T) {
	l := ordinary()
	for _, how := range []int{snap.Done, snap.Spent, snap.Broke} {
		b := full(t, l, 2)
		o := begin(t, l, 1)
		busy(t, o, b, 11)
		last, accesses := b, 1
		switch how {
		case snap.Spent:
			b.Add(l[2].Seq, 2)
		case snap.Broke:
			last, accesses = nil, 0
		}
		step(t, o, last, how, accesses)
		words, gens := o.Got()
		at, steps := o.At(), o.Steps()
		if (len(words) == 6 && len(gens) == 3 && at == 3) != (how == snap.Done) || steps != 11+accesses {
			t.Errorf("ended %d: %v, %v, at %d, %d steps", how, words, gens, at, steps)
		}
		other := full(t, l, 10)
		for _, x := range []*bank.Bank{b, other, nil, b, other} {
			step(t, o, x, how, 0)
			tells(t, "ended", o, words, gens, at, steps)
		}
	}
}

// P10.2, P10.3: a nil snapshot.
func TestNilSnapshot(t *testing.T) {
	var o *snap.Op
	b := full(t, ordinary(), 2)
	for _, x := range []*bank.Bank{b, nil, b} {
		step(t, o, x, snap.Broke, 0)
		tellsNothing(t, "nil", o, 0)
	}
}

// P10.2: publishings, step by step, behind each step of a snapshot: the sequence that write takes and gives.
func TestPublishedMeanwhile(t *testing.T) {
	l := ordinary()
	for k, s := range l {
		for behind := range 13 {
			for steps := range s.Words + 4 {
				b := full(t, l, 4)
				w, e := write.New(s, slices.Repeat([]uint64{7}, s.Words), 1)
				if e != api.OK {
					t.Fatal(e)
				}
				o := begin(t, l, 1)
				if behind < 12 {
					busy(t, o, b, behind)
				} else {
					finish(t, o, b)
				}
				for range steps {
					w.Step(b)
				}
				how, want, gens := finish(t, o, b), snap.Done, []uint64{2, 2, 2}
				words := standing(l, gens)
				published := steps == s.Words+3
				switch {
				case published && behind <= k:
					gens[k] = 3
					words = standing(l, gens)
					from := width(l[:k])
					copy(words[from:], slices.Repeat([]uint64{7}, s.Words))
				case published && behind <= 9+k:
					want = snap.Spent
				}
				if how != want {
					t.Fatalf("topic %d, %d steps behind %d: %d, not %d", k, steps, behind, how, want)
				}
				if how == snap.Done {
					tells(t, "published meanwhile", o, words, gens, 3, 12)
				}
			}
		}
	}
}

// follower goes on as the chapter's table tells, over plain words.
type follower struct {
	l            []plan.Spot
	tries        int
	line, k, n   int
	g, words     []uint64
	how, at      int
	tried, steps int
}

// step does what the table's line says; whether it was an access.
func (f *follower) step(bank []uint64) bool {
	if f.how != snap.Busy {
		return false
	}
	s := f.l[f.k]
	at := s.Seq
	if f.line == 2 {
		at = place(s, f.g[f.k]) + f.n
	}
	if at >= len(bank) {
		f.how = snap.Broke
		return false
	}
	f.steps++
	switch f.line {
	case 1:
		f.first(bank[at])
	case 2:
		f.words = append(f.words, bank[at])
		if f.n++; f.n == s.Words {
			f.n = 0
			f.behind(3)
		}
	default:
		f.last(bank[at])
	}
	return true
}

// behind goes on to the next spot, or, behind the last one, to another line.
func (f *follower) behind(line int) {
	if f.k++; f.k == len(f.l) {
		f.k, f.line = 0, line
	}
}

// first does what the table's first line says of a sequence.
func (f *follower) first(sequence uint64) {
	if f.k == 0 {
		f.g, f.words = nil, nil
	}
	f.g, f.at = append(f.g, sequence/2), f.steps
	f.behind(2)
}

// last does what the table's third line says of a sequence.
func (f *follower) last(sequence uint64) {
	if sequence/2 == f.g[f.k] {
		if f.behind(4); f.line == 4 {
			f.how = snap.Done
		}
		return
	}
	f.line, f.k = 1, 0
	if f.tried++; f.tried == f.tries {
		f.how = snap.Spent
	}
}

// holds holds a snapshot against the follower.
func (f *follower) holds(t *testing.T, o *snap.Op) {
	t.Helper()
	if f.how == snap.Done {
		tells(t, "against the table", o, f.words, f.g, f.at, f.steps)
		return
	}
	tellsNothing(t, "against the table", o, f.steps)
}

// P10.2, P10.3: snapshots of spots that may lie across one another and beyond the bank, disturbed by others and by banks that change, against the table.
func TestAgainstTheTable(t *testing.T) {
	r := rand.New(rand.NewPCG(10, 2))
	ends := map[int]int{}
	for range 4000 {
		sizes := []int{30, 1 + r.IntN(30), 0}
		banks, plain := make([]*bank.Bank, 3), make([][]uint64, 3)
		for i, n := range sizes {
			plain[i] = make([]uint64, n)
			banks[i], _ = bank.New(n) // the last one is nil
		}
		var ops []*snap.Op
		var follow []*follower
		for range 1 + r.IntN(3) {
			var l []plan.Spot
			for range 1 + r.IntN(1+r.IntN(4)) {
				l = append(l, plan.Spot{Owners: r.IntN(40), Seq: r.IntN(6), First: r.IntN(18), Words: 1 + r.IntN(3), Depth: 2 + r.IntN(3)})
			}
			f := &follower{l: l, tries: 1 + r.IntN(3), line: 1}
			follow, ops = append(follow, f), append(ops, begin(t, l, f.tries))
		}
		often := 1 + r.IntN(12)
		for range 80 {
			k, i := 0, r.IntN(len(ops))
			if r.IntN(80) == 0 {
				k = 1 + r.IntN(2)
			}
			if r.IntN(often) == 0 {
				at, by := r.IntN(20), uint64(r.IntN(4))
				if r.IntN(20) == 0 {
					by = greatest - 3
				}
				banks[0].Add(at, by)
				plain[0][at] += by
			}
			accesses := 0
			if follow[i].step(plain[k]) {
				accesses = 1
			}
			step(t, ops[i], banks[k], follow[i].how, accesses)
			follow[i].holds(t, ops[i])
		}
		for _, f := range follow {
			ends[f.how]++
			if f.how == snap.Done && f.tried > 0 {
				ends[-1]++
			}
		}
	}
	for _, how := range []int{snap.Done, snap.Spent, snap.Broke, -1} {
		if ends[how] < 100 {
			t.Errorf("only %d ended %d, of %v", ends[how], how, ends)
		}
	}
}
