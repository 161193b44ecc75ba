package snap_test

import (
	"math"
	"slices"
	"testing"

	"aileron/api"
	"aileron/bank"
	"aileron/plan"
	"aileron/snap"
)

const greatest = math.MaxUint64

// shape is how many words a topic's records have, and how many places.
type shape struct {
	words int
	depth int
}

// lay lays spots of some shapes side by side, behind a word that is no topic's.
func lay(shapes ...shape) []plan.Spot {
	var l []plan.Spot
	at := 1
	for _, f := range shapes {
		l = append(l, plan.Spot{Owners: at, Seq: at + 1, First: at + 2, Words: f.words, Depth: f.depth})
		at += 2 + f.words*f.depth
	}
	return l
}

// ordinary are three spots, of six words together.
func ordinary() []plan.Spot { return lay(shape{2, 3}, shape{1, 2}, shape{3, 4}) }

// many are so many spots of one shape.
func many(n int, f shape) []plan.Spot { return lay(slices.Repeat([]shape{f}, n)...) }

// width is how many words the records of spots have together.
func width(l []plan.Spot) int {
	n := 0
	for _, s := range l {
		n += s.Words
	}
	return n
}

// full is a bank in which spots just fit, with their sequences; all its other words tell where they stand.
func full(t *testing.T, l []plan.Spot, sequences ...uint64) *bank.Bank {
	t.Helper()
	size := 1
	for _, s := range l {
		size = max(size, s.Seq+1, s.First+s.Words*s.Depth)
	}
	b, e := bank.New(size)
	if e != api.OK {
		t.Fatalf("no bank for %+v: %v", l, e)
	}
	for at := range size {
		b.Store(at, uint64(at)+1000)
	}
	for i, s := range l {
		b.Store(s.Seq, sequences[i%len(sequences)])
	}
	return b
}

// place is the first word of the place of a generation.
func place(s plan.Spot, gen uint64) int { return s.First + s.Words*int(gen%uint64(s.Depth)) }

// standing is what a full bank has in the places of generations, one of each spot.
func standing(l []plan.Spot, gens []uint64) []uint64 {
	var words []uint64
	for i, s := range l {
		for n := range s.Words {
			words = append(words, uint64(place(s, gens[i])+n)+1000)
		}
	}
	return words
}

// halves are the generations of sequences, one of each spot.
func halves(l []plan.Spot, sequences ...uint64) []uint64 {
	var gens []uint64
	for i := range l {
		gens = append(gens, sequences[i%len(sequences)]/2)
	}
	return gens
}

// all are all of a bank's words, without an access.
func all(b *bank.Bank) []uint64 {
	l := make([]uint64, b.Len())
	for at := range l {
		l[at] = b.Peek(at)
	}
	return l
}

// begin is a snapshot that a test goes on with.
func begin(t *testing.T, l []plan.Spot, tries int) *snap.Op {
	t.Helper()
	o, e := snap.New(l, tries)
	if e != api.OK || o == nil {
		t.Fatalf("New of %+v, %d tries: %v, %v", l, tries, o, e)
	}
	return o
}

// finish does the steps that are left; it gives up far behind Most, so that a snapshot without an end fails.
func finish(t *testing.T, o *snap.Op, b *bank.Bank) int {
	t.Helper()
	for range 100000 {
		if how := o.Step(b); how != snap.Busy {
			return how
		}
	}
	t.Fatal("a snapshot without an end")
	return snap.Busy
}

// tells holds a snapshot that is Done against what it should tell.
func tells(t *testing.T, what string, o *snap.Op, words, gens []uint64, at, steps int) {
	t.Helper()
	if w, g := o.Got(); !slices.Equal(w, words) || !slices.Equal(g, gens) || o.At() != at || o.Steps() != steps {
		t.Fatalf("%s: %v, generations %v, at %d, %d steps, not %v, %v, %d, %d", what, w, g, o.At(), o.Steps(), words, gens, at, steps)
	}
}

// tellsNothing holds a snapshot that is not Done against what it should tell.
func tellsNothing(t *testing.T, what string, o *snap.Op, steps int) {
	t.Helper()
	tells(t, what, o, nil, nil, 0, steps)
}

// turned are the ordinary spots, with one thing of the k-th one turned.
func turned(k int, turn func(*plan.Spot)) []plan.Spot {
	l := ordinary()
	turn(&l[k])
	return l
}

// The numbers have their values: others write them down as they are.
func TestHowThingsStand(t *testing.T) {
	if snap.Busy != 0 || snap.Done != 1 || snap.Spent != 2 || snap.Broke != 3 {
		t.Error(snap.Busy, snap.Done, snap.Spent, snap.Broke)
	}
}

// taken holds New and Most against what they answer of something that may be.
func taken(t *testing.T, l []plan.Spot) {
	t.Helper()
	for _, tries := range []int{1, 2, 15, 16} {
		tellsNothing(t, "a new snapshot", begin(t, l, tries), 0)
		if most := snap.Most(l, tries); most != tries*(len(l)+len(l)+width(l)) {
			t.Errorf("%+v, %d tries: Most is %d", l, tries, most)
		}
	}
}

// P10.1: spots and tries at their edges are taken, in each place of the row; what is made has not begun.
func TestNewAtTheEdges(t *testing.T) {
	for k := range ordinary() {
		for _, n := range []int{0, 1048576} {
			taken(t, turned(k, func(s *plan.Spot) { s.Owners = n }))
			taken(t, turned(k, func(s *plan.Spot) { s.Seq = n }))
			taken(t, turned(k, func(s *plan.Spot) { s.First = n }))
		}
		for _, n := range []int{1, 64} {
			taken(t, turned(k, func(s *plan.Spot) { s.Words = n }))
		}
		for _, n := range []int{2, 16} {
			taken(t, turned(k, func(s *plan.Spot) { s.Depth = n }))
		}
	}
	taken(t, []plan.Spot{{Words: 1, Depth: 2}})
	taken(t, []plan.Spot{{Owners: 1048576, Seq: 1048576, First: 1048576, Words: 64, Depth: 16}})
	for _, n := range []int{1, 2, 3, 63, 64} {
		taken(t, many(n, shape{1, 2}))
		taken(t, many(n, shape{64, 16}))
		taken(t, slices.Repeat(ordinary()[:1], n))
	}
}

// refused holds New and Most against what they answer of something that may not be.
func refused(t *testing.T, l []plan.Spot, tries int, want api.Errno) {
	t.Helper()
	if o, e := snap.New(l, tries); o != nil || e != want {
		t.Errorf("New of %d spots %+v, %d tries: %v, %v, not %v", len(l), l, tries, o, e, want)
	}
	if most := snap.Most(l, tries); most != 0 {
		t.Errorf("Most of %d spots %+v, %d tries: %d", len(l), l, tries, most)
	}
}

// P10.1: no spots, and too many of them: that is told first, whatever the spots and the tries are.
func TestHowManySpots(t *testing.T) {
	for _, tries := range []int{1, 16, 0, 17, -1} {
		refused(t, nil, tries, api.ErrLong)
		refused(t, []plan.Spot{}, tries, api.ErrLong)
		refused(t, ordinary()[:0], tries, api.ErrLong)
		for _, n := range []int{65, 66, 128, 1000} {
			refused(t, many(n, shape{1, 2}), tries, api.ErrLong)
			refused(t, make([]plan.Spot, n), tries, api.ErrLong)
			l := many(n, shape{1, 2})
			l[n-1].Depth = 1
			refused(t, l, tries, api.ErrLong)
		}
	}
}

// P10.1: a spot that is not right is refused, in each place of the row, whichever of its numbers it is.
func TestSpotsThatAreNotRight(t *testing.T) {
	for k := range ordinary() {
		for _, n := range []int{-1, 1048577, math.MinInt, math.MaxInt, 1 << 32, 1<<32 + 2} {
			for _, tries := range []int{1, 16, 0} {
				refused(t, turned(k, func(s *plan.Spot) { s.Words = n }), tries, api.ErrRange)
				refused(t, turned(k, func(s *plan.Spot) { s.Depth = n }), tries, api.ErrRange)
				refused(t, turned(k, func(s *plan.Spot) { s.Owners = n }), tries, api.ErrRange)
				refused(t, turned(k, func(s *plan.Spot) { s.Seq = n }), tries, api.ErrRange)
				refused(t, turned(k, func(s *plan.Spot) { s.First = n }), tries, api.ErrRange)
			}
		}
		for _, n := range []int{0, 65, 66, 128} {
			refused(t, turned(k, func(s *plan.Spot) { s.Words = n }), 1, api.ErrRange)
		}
		for _, n := range []int{0, 1, 17, 18, 64} {
			refused(t, turned(k, func(s *plan.Spot) { s.Depth = n }), 1, api.ErrRange)
		}
		refused(t, turned(k, func(s *plan.Spot) { *s = plan.Spot{} }), 1, api.ErrRange)
	}
	for _, n := range []int{1, 2, 64} {
		refused(t, make([]plan.Spot, n), 1, api.ErrRange)
		for k := range n {
			l := many(n, shape{2, 2})
			l[k].Words = 65
			refused(t, l, 1, api.ErrRange)
		}
	}
}

// P10.1: tries that may not be.
func TestTriesThatMayNotBe(t *testing.T) {
	for _, tries := range []int{0, 17, 18, -1, -16, 1 << 32, 1<<32 + 1, math.MinInt, math.MaxInt} {
		refused(t, ordinary(), tries, api.ErrRange)
		refused(t, ordinary()[:1], tries, api.ErrRange)
		refused(t, many(64, shape{1, 2}), tries, api.ErrRange)
	}
}

// P10.1: Most, of each number of spots, of words and of tries.
func TestMost(t *testing.T) {
	for n := range 67 {
		for _, words := range []int{0, 1, 2, 3, 63, 64, 65} {
			for tries := -1; tries <= 18; tries++ {
				want := 0
				if n >= 1 && n <= 64 && words >= 1 && words <= 64 && tries >= 1 && tries <= 16 {
					want = (2*n + n*words) * tries
				}
				if most := snap.Most(many(n, shape{words, 3}), tries); most != want {
					t.Fatalf("%d spots of %d words, %d tries: %d, not %d", n, words, tries, most, want)
				}
			}
		}
	}
	for _, c := range []struct {
		l     []plan.Spot
		tries int
		want  int
	}{
		{ordinary(), 1, 12}, {ordinary(), 3, 36}, {ordinary(), 16, 192}, {ordinary()[:1], 1, 4}, {ordinary()[:2], 5, 35}, {many(64, shape{64, 16}), 16, 67584},
	} {
		if most := snap.Most(c.l, c.tries); most != c.want {
			t.Errorf("%d spots, %d tries: %d, not %d", len(c.l), c.tries, most, c.want)
		}
	}
}

// P10.1: what is made had no try: each one that it may have is left.
func TestNewHadNoTry(t *testing.T) {
	for tries := 1; tries <= 16; tries++ {
		l := ordinary()
		b := full(t, l, 0)
		o := begin(t, l, tries)
		for range tries - 1 {
			failTry(t, o, b, l, 2, snap.Busy)
		}
		if how := finish(t, o, b); how != snap.Done || o.Steps() != snap.Most(l, tries) {
			t.Errorf("%d tries: the last one is %d, with %d steps", tries, how, o.Steps())
		}
	}
}

// P10.3, R2: what Got tells is the caller's own: whoever turns it, or lays something behind it, turns neither the snapshot, nor what it tells another time, nor its other list, nor the bank.
func TestWhatIsGotIsTheCallers(t *testing.T) {
	for _, l := range [][]plan.Spot{ordinary(), ordinary()[:1], lay(shape{1, 2}), lay(shape{1, 2}, shape{1, 2}), lay(shape{64, 2}, shape{64, 2}), many(64, shape{1, 2}), many(3, shape{5, 2})} {
		b := full(t, l, 6, 8, 11)
		o, bankWas := begin(t, l, 1), all(b)
		if how := finish(t, o, b); how != snap.Done {
			t.Fatal(how)
		}
		gens := halves(l, 6, 8, 11)
		words, at, steps := standing(l, gens), len(l), 2*len(l)+width(l)
		firstWords, firstGens := o.Got()
		secondWords, secondGens := o.Got()
		longWords, longGens := append(firstWords, 1, 2, 3), append(firstGens, 4, 5, 6)
		if !slices.Equal(firstWords, words) || !slices.Equal(firstGens, gens) || !slices.Equal(longWords, append(slices.Clone(words), 1, 2, 3)) || !slices.Equal(longGens, append(slices.Clone(gens), 4, 5, 6)) {
			t.Errorf("something was laid behind: %v, %v", longWords, longGens)
		}
		clear(firstWords[:cap(firstWords)])
		if !slices.Equal(firstGens, gens) {
			t.Errorf("the words were turned, and the generations are %v", firstGens)
		}
		clear(firstGens[:cap(firstGens)])
		tells(t, "one was turned", o, words, gens, at, steps)
		if !slices.Equal(secondWords, words) || !slices.Equal(secondGens, gens) {
			t.Errorf("one was turned, and the other one is %v, %v", secondWords, secondGens)
		}
		clear(secondGens[:cap(secondGens)])
		if !slices.Equal(secondWords, words) {
			t.Errorf("the generations were turned, and the words are %v", secondWords)
		}
		for i := range secondWords {
			_ = append(secondWords[:i], 7)
		}
		tells(t, "all were turned", o, words, gens, at, steps)
		if !slices.Equal(all(b), bankWas) {
			t.Errorf("the bank was turned: %v", all(b))
		}
	}
}

// P10.3: record by record: a caller that turns the words of one record turns those of no other one.
func TestRecordByRecord(t *testing.T) {
	l := ordinary()
	b := full(t, l, 2)
	o := begin(t, l, 1)
	if how := finish(t, o, b); how != snap.Done {
		t.Fatal(how)
	}
	want, from := standing(l, []uint64{1, 1, 1}), 0
	for i, s := range l {
		words, gens := o.Got()
		record := words[from : from+s.Words]
		for n := range record {
			if record[n] != uint64(place(s, 1)+n)+1000 {
				t.Errorf("record %d: %v", i, record)
			}
		}
		clear(record)
		if !slices.Equal(words[:from], want[:from]) || !slices.Equal(words[from+s.Words:], want[from+s.Words:]) || !slices.Equal(gens, []uint64{1, 1, 1}) {
			t.Errorf("record %d was turned: %v, %v", i, words, gens)
		}
		from += s.Words
		tells(t, "a record was turned", o, want, []uint64{1, 1, 1}, 3, 12)
	}
}

// P10.3, R3: what was read stays as it was read, whatever becomes of the bank, and with whatever bank it goes on.
func TestWhatIsGotStays(t *testing.T) {
	l := ordinary()
	b := full(t, l, 2)
	o := begin(t, l, 1)
	if how := finish(t, o, b); how != snap.Done {
		t.Fatal(how)
	}
	gens := []uint64{1, 1, 1}
	for at := range b.Len() {
		b.Store(at, 1)
	}
	tells(t, "the bank was turned", o, standing(l, gens), gens, 3, 12)
	o.Step(full(t, l, 40))
	tells(t, "another bank", o, standing(l, gens), gens, 3, 12)
}

// R2: what is handed to New and Most is not turned, nor what stands behind its length.
func TestSpotsAreNotTurned(t *testing.T) {
	held := many(5, shape{2, 3})
	want := slices.Clone(held)
	o := begin(t, held[:3], 2)
	b := full(t, want, 4)
	snap.Most(held[:3], 2)
	failTry(t, o, b, want[:3], 1, snap.Busy)
	if how := finish(t, o, b); how != snap.Done {
		t.Fatal(how)
	}
	words, gens := o.Got()
	clear(words)
	clear(gens)
	if !slices.Equal(held, want) {
		t.Errorf("%+v", held)
	}
	wrong := append(held[:2:2], plan.Spot{Words: 65})
	snap.New(wrong, 1)
	snap.Most(wrong, 1)
	if !slices.Equal(wrong, append(slices.Clone(want[:2]), plan.Spot{Words: 65})) {
		t.Errorf("%+v", wrong)
	}
}

// R2: what is handed to New is not kept: whoever turns it later turns nothing of the snapshot, ahead of whichever step.
func TestSpotsAreNotKept(t *testing.T) {
	l := ordinary()
	for at := range 13 {
		held := ordinary()
		b := full(t, l, 4)
		o := begin(t, held, 1)
		for range at {
			o.Step(b)
		}
		for i := range held {
			held[i] = plan.Spot{Owners: 0, Seq: 0, First: 0, Words: 1, Depth: 2}
		}
		other := slices.Clone(held)
		if how := finish(t, o, b); how != snap.Done {
			t.Fatal(how)
		}
		tells(t, "spots were turned", o, standing(l, []uint64{2, 2, 2}), []uint64{2, 2, 2}, 3, 12)
		if !slices.Equal(held, other) {
			t.Errorf("%+v", held)
		}
	}
}

// R3: two snapshots of the same spots go their own ways.
func TestSnapshotsHaveNothingInCommon(t *testing.T) {
	l := ordinary()
	o, p := begin(t, l, 1), begin(t, l, 1)
	if how := finish(t, o, full(t, l, 2)); how != snap.Done {
		t.Fatal(how)
	}
	tellsNothing(t, "the other one", p, 0)
	if how := finish(t, p, full(t, l, 5)); how != snap.Done {
		t.Fatal(how)
	}
	tells(t, "the first one", o, standing(l, []uint64{1, 1, 1}), []uint64{1, 1, 1}, 3, 12)
	tells(t, "the other one", p, standing(l, []uint64{2, 2, 2}), []uint64{2, 2, 2}, 3, 12)
}
