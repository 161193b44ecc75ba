package poll_test

import (
	"math"
	"slices"
	"testing"

	"aileron/api"
	"aileron/bank"
	"aileron/plan"
	"aileron/poll"
	"aileron/queue"
)

const (
	greatest = math.MaxUint64
	last     = 1<<63 - 1 // the greatest generation
)

// shape is how many words a topic's records have, and how many places.
type shape struct {
	words int
	depth int
}

// lay lays spots of some shapes side by side, behind a word that is no topic's.
func lay(shapes ...shape) []plan.Spot {
	var l []plan.Spot
	at := 1
	for _, f := range shapes {
		l = append(l, plan.Spot{Owners: at, Seq: at + 1, First: at + 2, Words: f.words, Depth: f.depth})
		at += 2 + f.words*f.depth
	}
	return l
}

// sub is a subscription that took and lost nothing.
func sub(topic, rank int, next uint64, room int) queue.Sub {
	return queue.Sub{Topic: topic, Rank: rank, Cursor: queue.Cursor{Next: next, Cap: room}}
}

// row is a row of subscriptions, and where each one's topic lies.
type row struct {
	l []queue.Sub
	s []plan.Spot
}

// ordinary is a row of three topics, whose numbers do not rise in it, nor do their spots with the numbers; the topics 5 and 9 are there twice.
func ordinary() row {
	s := lay(shape{2, 3}, shape{1, 4}, shape{3, 5})
	return row{
		[]queue.Sub{sub(9, 2, 3, 2), sub(5, 4, 6, 1), sub(9, 4, 5, 1), sub(7, 4, 2, 3), sub(5, 1, 1, 4)},
		[]plan.Spot{s[0], s[2], s[0], s[1], s[2]},
	}
}

// one is a row of one subscription.
func one(f shape, next uint64, room int) row {
	return row{[]queue.Sub{sub(0, 0, next, room)}, lay(f)}
}

// full is a bank in which spots just fit, with their sequences, by their topics' places in the bank; all its other words tell where they stand.
func full(t *testing.T, s []plan.Spot, sequences ...uint64) *bank.Bank {
	t.Helper()
	size, at := 1, map[int]bool{}
	for _, x := range s {
		size = max(size, x.Seq+1, x.First+x.Words*x.Depth)
		at[x.Seq] = true
	}
	b, e := bank.New(size)
	if e != api.OK {
		t.Fatalf("no bank for %+v: %v", s, e)
	}
	n := 0
	for k := range size {
		b.Store(k, uint64(k)+1000)
		if at[k] {
			b.Store(k, sequences[n%len(sequences)])
			n++
		}
	}
	return b
}

// place is the first word of the place of a generation.
func place(s plan.Spot, gen uint64) int { return s.First + s.Words*int(gen%uint64(s.Depth)) }

// all are all of a bank's words, without an access.
func all(b *bank.Bank) []uint64 {
	l := make([]uint64, b.Len())
	for at := range l {
		l[at] = b.Peek(at)
	}
	return l
}

// fresh is a poll that has not begun.
func fresh(t *testing.T, l []queue.Sub, s []plan.Spot, tries int) *poll.Op {
	t.Helper()
	o, e := poll.New(l, s, tries)
	if e != api.OK || o == nil {
		t.Fatalf("New of %+v at %+v, %d tries: %v, %v", l, s, tries, o, e)
	}
	return o
}

// end does the steps of a poll that are left.
func end(t *testing.T, o *poll.Op, b *bank.Bank) int {
	t.Helper()
	for range 10000 {
		if how := o.Step(b); how != poll.Busy {
			return how
		}
	}
	t.Fatal("a poll without an end")
	return poll.Busy
}

// The numbers have their values: others write them down as they are.
func TestHowThingsStand(t *testing.T) {
	if poll.Busy != 0 || poll.Done != 1 || poll.Spent != 2 || poll.Broke != 3 {
		t.Error(poll.Busy, poll.Done, poll.Spent, poll.Broke)
	}
}

// turned is the ordinary row, with one thing turned.
func turned(turn func(r *row)) row {
	r := ordinary()
	turn(&r)
	return r
}

// taken holds New against what it answers of something that may be, with as few and as many tries as there may be, and one beyond each.
func taken(t *testing.T, r row) {
	t.Helper()
	for tries := -1; tries <= 18; tries++ {
		o, e := poll.New(r.l, r.s, tries)
		if tries < 1 || tries > 16 {
			if o != nil || e != api.ErrRange {
				t.Errorf("New of %+v, %d tries: %v, %v", r, tries, o, e)
			}
			continue
		}
		if o == nil || e != api.OK {
			t.Errorf("New of %+v, %d tries: %v, %v", r, tries, o, e)
			continue
		}
		if is := tells(o, poll.Busy); !is.same(nothing(poll.Busy, 0)) {
			t.Errorf("a new poll tells %+v", is)
		}
	}
}

// refused holds New against what it answers of something that may not be: of tries that may not be either, it is told first.
func refused(t *testing.T, r row) {
	t.Helper()
	for _, tries := range []int{1, 2, 16, 0, 17, -1, math.MaxInt, math.MinInt} {
		if o, e := poll.New(r.l, r.s, tries); o != nil || e != api.ErrArg {
			t.Errorf("New of %+v, %d tries: %v, %v", r, tries, o, e)
		}
	}
}

// P12.1: no subscriptions, and not as many as spots.
func TestHowMany(t *testing.T) {
	r := ordinary()
	refused(t, row{})
	refused(t, row{[]queue.Sub{}, []plan.Spot{}})
	refused(t, row{r.l[:0], r.s[:0]})
	for n := range 6 {
		for m := range 6 {
			if n != m || n == 0 {
				refused(t, row{r.l[:n], r.s[:m]})
			} else {
				taken(t, row{r.l[:n], r.s[:m]})
			}
		}
	}
	refused(t, row{nil, r.s})
	refused(t, row{r.l, nil})
	for _, n := range []int{1, 2, 8, 9, 64, 65, 300} {
		taken(t, row{slices.Repeat(r.l[:1], n), slices.Repeat(r.s[:1], n)})
		taken(t, many(n, shape{1, 2}))
		refused(t, row{slices.Repeat(r.l[:1], n+1), slices.Repeat(r.s[:1], n)})
		refused(t, row{slices.Repeat(r.l[:1], n), slices.Repeat(r.s[:1], n+1)})
	}
}

// many is a row of so many subscriptions, each of a topic of its own; the later ones' numbers are the lower ones.
func many(n int, f shape) row {
	r := row{nil, lay(slices.Repeat([]shape{f}, n)...)}
	for k := range n {
		r.l = append(r.l, sub(n-k, k%3, 1, 1))
	}
	return r
}

// P12.1: tries that may not be, of rows that may be, far from the edges too.
func TestTriesThatMayNotBe(t *testing.T) {
	for _, tries := range []int{0, 17, -1, -16, 1 << 32, 1<<32 + 1, math.MinInt, math.MaxInt} {
		for _, r := range []row{ordinary(), one(shape{1, 2}, 0, 1), many(64, shape{1, 2})} {
			if o, e := poll.New(r.l, r.s, tries); o != nil || e != api.ErrRange {
				t.Errorf("%d tries: %v, %v", tries, o, e)
			}
			if most := poll.Most(r.s, tries); most != 0 {
				t.Errorf("%d tries: Most is %d", tries, most)
			}
		}
	}
}

// eachOf turns the spot of all subscriptions of the k-th one's topic: they lie at one spot.
func eachOf(r *row, k int, turn func(s *plan.Spot)) {
	for i, x := range r.l {
		if x.Topic == r.l[k].Topic {
			turn(&r.s[i])
		}
	}
}

// P12.1: spots at their edges are taken, in each place of the row. Whether a spot is right is told by At alone: any word may be the owners' and the sequence.
func TestSpotsAtTheEdges(t *testing.T) {
	for k := range ordinary().l {
		for _, n := range []int{0, 1, 1048575, 1048576} {
			taken(t, turned(func(r *row) { eachOf(r, k, func(s *plan.Spot) { s.First = n }) }))
		}
		for _, n := range []int{0, 1048576, 1048577, -1, math.MinInt, math.MaxInt} {
			taken(t, turned(func(r *row) { eachOf(r, k, func(s *plan.Spot) { s.Owners = n }) }))
			taken(t, turned(func(r *row) { eachOf(r, k, func(s *plan.Spot) { s.Seq = n }) }))
		}
		for _, n := range []int{1, 2, 63, 64} {
			taken(t, turned(func(r *row) { eachOf(r, k, func(s *plan.Spot) { s.Words = n }) }))
		}
		for _, n := range []int{5, 15, 16} {
			taken(t, turned(func(r *row) { eachOf(r, k, func(s *plan.Spot) { s.Depth = n }) }))
		}
	}
	for depth := 2; depth <= 16; depth++ {
		taken(t, one(shape{1, depth}, 0, 1))
	}
	taken(t, row{[]queue.Sub{sub(0, 0, 0, 1)}, []plan.Spot{{Words: 1, Depth: 2}}})
}

// P12.1: a spot that is not right is refused, in each place of the row, whichever of its numbers it is; also where all of its topic lie there.
func TestSpotsThatAreNotRight(t *testing.T) {
	both := func(k int, turn func(s *plan.Spot)) {
		t.Helper()
		refused(t, turned(func(r *row) { turn(&r.s[k]) }))
		refused(t, turned(func(r *row) { eachOf(r, k, turn) }))
		s := slices.Clone(ordinary().s)
		turn(&s[k])
		for tries := -1; tries <= 18; tries++ {
			if most := poll.Most(s, tries); most != 0 {
				t.Errorf("Most of %+v, %d tries: %d", s, tries, most)
			}
		}
	}
	for k := range ordinary().l {
		for _, n := range []int{-1, 0, 65, 66, 1 << 32, 1<<32 + 2, math.MinInt, math.MaxInt} {
			both(k, func(s *plan.Spot) { s.Words = n })
		}
		for _, n := range []int{-1, 0, 17, 18, 1 << 32, 1<<32 + 5, math.MinInt, math.MaxInt} {
			both(k, func(s *plan.Spot) { s.Depth = n })
		}
		for _, n := range []int{-1, 1048577, 1 << 32, 1<<32 + 3, math.MinInt, math.MaxInt} {
			both(k, func(s *plan.Spot) { s.First = n })
		}
		both(k, func(s *plan.Spot) { *s = plan.Spot{} })
	}
	refused(t, row{[]queue.Sub{sub(0, 0, 0, 1)}, []plan.Spot{{}}})
	refused(t, row{[]queue.Sub{{}}, lay(shape{1, 2})})
}

// P12.1: topics, ranks and what cursors tell may be any numbers; a cursor's Next is 2^63 at most.
func TestSubscriptionsAtTheEdges(t *testing.T) {
	for k := range ordinary().l {
		for _, n := range []int{0, -1, 64, 1 << 40, math.MinInt, math.MaxInt} {
			taken(t, turned(func(r *row) { r.l[k].Rank = n }))
			taken(t, row{[]queue.Sub{sub(n, n, 1, 1)}, lay(shape{1, 2})})
			taken(t, turned(func(r *row) {
				was := r.l[k].Topic
				for i := range r.l {
					if r.l[i].Topic == was {
						r.l[i].Topic = n
					}
				}
			}))
		}
		for _, n := range []uint64{0, 1, last - 1, last, last + 1} {
			taken(t, turned(func(r *row) { r.l[k].Cursor.Next = n }))
		}
		for _, n := range []uint64{0, 1, last + 1, greatest} {
			taken(t, turned(func(r *row) { r.l[k].Cursor.Got, r.l[k].Cursor.Lost = n, greatest-n }))
		}
		for _, n := range []uint64{last + 2, last + 3, greatest - 1, greatest} {
			refused(t, turned(func(r *row) { r.l[k].Cursor.Next = n }))
		}
		for _, n := range []int{0, -1, 16, 17, 1 << 32, 1<<32 + 1, math.MinInt, math.MaxInt} {
			refused(t, turned(func(r *row) { r.l[k].Cursor.Cap = n }))
			refused(t, turned(func(r *row) {
				r.l[k].Cursor.Cap = n
				eachOf(r, k, func(s *plan.Spot) { s.Depth = 16 })
			}))
		}
	}
}

// P12.1: a Cap is its spot's Depth less 1 at most, in each place of the row, whatever the others' are.
func TestCapAndDepth(t *testing.T) {
	for k := range ordinary().l {
		for depth := 1; depth <= 16; depth++ {
			for room := 1; room <= 16; room++ {
				r := turned(func(r *row) {
					for i := range r.l {
						r.l[i].Cursor.Cap = 1
						if r.s[i].Depth = 2; r.l[i].Topic == r.l[k].Topic {
							r.s[i].Depth = depth
						}
					}
					r.l[k].Cursor.Cap = room
				})
				if room <= depth-1 {
					taken(t, r)
				} else {
					refused(t, r)
				}
			}
		}
	}
	for room := 1; room <= 15; room++ {
		taken(t, row{[]queue.Sub{sub(0, 0, 0, room), sub(0, 0, 0, 1), sub(0, 0, 0, room)}, slices.Repeat(lay(shape{1, room + 1}), 3)})
		refused(t, row{[]queue.Sub{sub(0, 0, 0, room), sub(0, 0, 0, 1), sub(0, 0, 0, room+1)}, slices.Repeat(lay(shape{1, room + 1}), 3)})
	}
}

// P12.1: two of one topic lie at one spot; whichever number of one of them is another one, they are refused, side by side or not, and whichever is ahead.
func TestSpotsOfOneTopic(t *testing.T) {
	s, other := plan.Spot{Owners: 1, Seq: 2, First: 3, Words: 2, Depth: 4}, lay(shape{1, 2}, shape{1, 2}, shape{1, 2}, shape{1, 2})[3]
	for _, turn := range []func(s *plan.Spot){
		func(s *plan.Spot) { s.Owners++ }, func(s *plan.Spot) { s.Seq++ }, func(s *plan.Spot) { s.First++ }, func(s *plan.Spot) { s.Words++ }, func(s *plan.Spot) { s.Depth++ },
		func(s *plan.Spot) { s.Owners-- }, func(s *plan.Spot) { s.Seq-- }, func(s *plan.Spot) { s.First-- }, func(s *plan.Spot) { s.Words-- }, func(s *plan.Spot) { s.Depth-- },
	} {
		x := s
		turn(&x)
		for topic := range 3 {
			l := []queue.Sub{sub(topic, 0, 0, 1), sub(1, 0, 0, 1), sub(topic, 0, 0, 1)}
			if topic == 1 {
				refused(t, row{l, []plan.Spot{s, s, x}})
				refused(t, row{l, []plan.Spot{s, x, s}})
				refused(t, row{l, []plan.Spot{x, s, s}})
				taken(t, row{l, []plan.Spot{x, x, x}})
				continue
			}
			refused(t, row{l, []plan.Spot{s, other, x}})
			refused(t, row{l, []plan.Spot{x, other, s}})
			taken(t, row{l, []plan.Spot{x, other, x}})
			refused(t, row{[]queue.Sub{l[0], l[2], l[1]}, []plan.Spot{s, x, other}})
			refused(t, row{[]queue.Sub{l[1], l[0], l[2]}, []plan.Spot{other, x, s}})
		}
	}
	for k := range 20 {
		r := row{slices.Repeat([]queue.Sub{sub(3, 0, 0, 1)}, 20), slices.Repeat([]plan.Spot{s}, 20)}
		taken(t, r)
		r.s[k].Owners = 0
		refused(t, r)
	}
}

// P12.1: two topics lie at two words Seq; all else of their spots may be the same.
func TestSequencesOfTwoTopics(t *testing.T) {
	s, other := plan.Spot{Owners: 1, Seq: 2, First: 3, Words: 2, Depth: 4}, lay(shape{1, 2}, shape{1, 2}, shape{1, 2}, shape{1, 2})[3]
	apart := s
	apart.Seq = 3
	there := plan.Spot{Owners: 9, Seq: 2, First: 30, Words: 1, Depth: 2}
	for _, topics := range [][3]int{{0, 1, 2}, {2, 1, 0}, {1, 2, 0}, {-5, 7, 100}, {math.MaxInt, 0, math.MinInt}} {
		l := []queue.Sub{sub(topics[0], 0, 0, 1), sub(topics[1], 0, 0, 1), sub(topics[2], 0, 0, 1)}
		for _, x := range []plan.Spot{s, there} {
			refused(t, row{l, []plan.Spot{s, x, other}})
			refused(t, row{l, []plan.Spot{s, other, x}})
			refused(t, row{l, []plan.Spot{other, s, x}})
			refused(t, row{l, []plan.Spot{s, x, x}})
		}
		taken(t, row{l, []plan.Spot{s, apart, other}})
		taken(t, row{l, []plan.Spot{s, other, apart}})
		taken(t, row{l, []plan.Spot{other, apart, s}})
		again := []queue.Sub{l[0], l[1], l[0], l[1], l[2]}
		taken(t, row{again, []plan.Spot{s, apart, s, apart, other}})
		refused(t, row{again, []plan.Spot{s, apart, s, apart, apart}})
		refused(t, row{again, []plan.Spot{s, other, s, other, s}})
	}
	for k := 1; k < 64; k++ {
		r := many(64, shape{1, 2})
		r.s[k].Seq = r.s[k/2].Seq
		refused(t, r)
	}
}

// P12.1: Most, of each number of spots, of words and of tries; spots whose Seq is one count once, whatever else they are.
func TestMost(t *testing.T) {
	for n := range 12 {
		for _, words := range []int{0, 1, 2, 3, 63, 64, 65} {
			for tries := -1; tries <= 18; tries++ {
				want := 0
				if n >= 1 && words >= 1 && words <= 64 && tries >= 1 && tries <= 16 {
					want = (2*n + words) * tries
				}
				s := lay(slices.Repeat([]shape{{words, 3}}, n)...)
				if most, twice := poll.Most(s, tries), poll.Most(slices.Repeat(s, 2), tries); most != want || twice != want {
					t.Fatalf("%d spots of %d words, %d tries: %d, and %d of each twice, not %d", n, words, tries, most, twice, want)
				}
			}
		}
	}
	s := lay(shape{2, 3}, shape{7, 2}, shape{4, 1})
	for _, c := range []struct {
		s     []plan.Spot
		tries int
		want  int
	}{
		{s, 1, 13}, {s, 16, 208}, {s[:1], 1, 4}, {s[:2], 3, 33}, {s[2:], 2, 12}, {ordinary().s, 1, 9}, {ordinary().s, 5, 45}, {many(300, shape{64, 16}).s, 16, 16 * 664},
		{[]plan.Spot{s[0], s[1], s[0], s[0]}, 1, 11}, {[]plan.Spot{s[2], s[1], s[0]}, 2, 26},
		{[]plan.Spot{{Seq: 3, Words: 2, Depth: 1}, {Seq: 3, Words: 6, Depth: 2}, {Seq: 3, Words: 4, Depth: 16}}, 1, 8},
		{[]plan.Spot{{Seq: -3, Words: 1, Depth: 1}, {Seq: math.MaxInt, Words: 1, Depth: 2}, {Seq: math.MinInt, Owners: -1, Words: 1, Depth: 16}}, 1, 7},
		{nil, 1, 0}, {[]plan.Spot{}, 1, 0}, {s[:0], 16, 0}, {nil, 0, 0}, {[]plan.Spot{{}}, 1, 0},
	} {
		if most := poll.Most(c.s, c.tries); most != c.want {
			t.Errorf("%+v, %d tries: %d, not %d", c.s, c.tries, most, c.want)
		}
	}
}

// P12.1: what is made has not begun: each attempt that it may have is left.
func TestNewHadNoAttempt(t *testing.T) {
	for tries := 1; tries <= 16; tries++ {
		r := row{[]queue.Sub{sub(2, 0, 1, 1), sub(1, 0, 1, 1)}, lay(shape{3, 2}, shape{3, 4})}
		b := full(t, r.s, 8)
		p := begin(t, r.l, r.s, tries)
		for range tries - 1 {
			p.steps(t, b, 2+3+1)
			b.Add(r.s[0].Seq, 2)
			p.steps(t, b, 1)
		}
		if is := p.finish(t, b); is.how != poll.Done || is.steps != poll.Most(r.s, tries) {
			t.Errorf("%d tries: %+v", tries, is)
		}
	}
}

// rows are rows of many kinds.
func rows() []row {
	return []row{ordinary(), one(shape{1, 2}, 1, 1), one(shape{64, 16}, 1, 15), many(8, shape{2, 2}), many(64, shape{1, 2}), {slices.Repeat(ordinary().l[:1], 8), slices.Repeat(ordinary().s[:1], 8)}}
}

// P12.3, R2: what Got, Subs and Gens tell is the caller's own: whoever turns it, or lays something behind it, turns neither the poll, nor what it tells another time, nor its other lists, nor the bank.
func TestWhatIsToldIsTheCallers(t *testing.T) {
	for _, r := range rows() {
		b := full(t, r.s, 6, 13, 10)
		p := begin(t, r.l, r.s, 1)
		was, words := p.finish(t, b), all(b)
		if was.how != poll.Done || was.k < 0 {
			t.Fatalf("%+v", was)
		}
		first, second := tells(p.o, poll.Done), tells(p.o, poll.Done)
		clear(first.words[:cap(first.words)])
		_ = append(first.subs, sub(1, 2, 3, 4))
		_ = append(first.gens, 1, 2, 3)
		first.words = second.words
		if !first.same(was) {
			t.Errorf("the words were turned: %+v, not %+v", first, was)
		}
		first = tells(p.o, poll.Done)
		clear(first.subs[:cap(first.subs)])
		first.subs = second.subs
		if !first.same(was) || !tells(p.o, poll.Done).same(was) {
			t.Errorf("the subscriptions were turned: %+v, not %+v", first, was)
		}
		first = tells(p.o, poll.Done)
		clear(first.gens[:cap(first.gens)])
		first.gens = second.gens
		if !first.same(was) || !tells(p.o, poll.Done).same(was) || !second.same(was) {
			t.Errorf("the generations were turned: %+v, not %+v", first, was)
		}
		for i := range second.words {
			_ = append(second.words[:i], 7)
		}
		for i := range second.gens {
			_, _ = append(second.gens[:i], 7), append(second.subs[:i], queue.Sub{})
		}
		p.step(t, b)
		if !tells(p.o, poll.Done).same(was) || !slices.Equal(all(b), words) {
			t.Errorf("all were turned: %+v, not %+v", tells(p.o, poll.Done), was)
		}
	}
}

// P12.3, R3: what was told stays as it was, whatever becomes of the bank, and with whatever bank it goes on.
func TestWhatIsToldStays(t *testing.T) {
	for _, r := range rows() {
		b := full(t, r.s, 6, 13, 10)
		p := begin(t, r.l, r.s, 1)
		was := p.finish(t, b)
		for at := range b.Len() {
			b.Store(at, 1)
		}
		p.step(t, b)
		p.step(t, full(t, r.s, 40))
		if is := tells(p.o, poll.Done); !is.same(was) {
			t.Errorf("%+v, not %+v", is, was)
		}
	}
}

// R2: what is handed to New and Most is not turned, nor what stands behind its length.
func TestWhatIsHandedInIsNotTurned(t *testing.T) {
	r := ordinary()
	for n := 1; n <= len(r.l); n++ {
		held := ordinary()
		b := full(t, r.s, 40, 9, 12)
		o := fresh(t, held.l[:n], held.s[:n], 2)
		poll.Most(held.s[:n], 2)
		if how := end(t, o, b); how != poll.Done {
			t.Fatal(how)
		}
		is := tells(o, poll.Done)
		clear(is.words)
		clear(is.subs)
		clear(is.gens)
		if !slices.Equal(held.l, r.l) || !slices.Equal(held.s, r.s) {
			t.Errorf("%+v", held)
		}
		held.s[n-1].Words = 65
		wrong := row{slices.Clone(held.l), slices.Clone(held.s)}
		poll.New(held.l[:n], held.s[:n], 1)
		poll.New(held.l[:n], held.s, 1)
		poll.Most(held.s[:n], 1)
		if !slices.Equal(held.l, wrong.l) || !slices.Equal(held.s, wrong.s) {
			t.Errorf("%+v", held)
		}
	}
}

// R2: what is handed to New is not kept: whoever turns it later turns nothing of the poll, ahead of whichever step.
func TestWhatIsHandedInIsNotKept(t *testing.T) {
	r := ordinary()
	for at := range 10 {
		held := ordinary()
		b := full(t, r.s, 40, 9, 12)
		p := begin(t, held.l, held.s, 1)
		for range at {
			p.step(t, b)
		}
		for k := range held.l {
			held.l[k], held.s[k] = sub(k, 9-k, 50, 2), plan.Spot{Words: 1, Depth: 3, Seq: k}
		}
		other := row{slices.Clone(held.l), slices.Clone(held.s)}
		if at < 9 {
			p.finish(t, b)
		}
		p.look(t, poll.Done)
		if !slices.Equal(held.l, other.l) || !slices.Equal(held.s, other.s) {
			t.Errorf("%+v", held)
		}
	}
}

// R3: two polls of the same subscriptions go their own ways.
func TestPollsHaveNothingInCommon(t *testing.T) {
	r := ordinary()
	p, q := begin(t, r.l, r.s, 2), begin(t, r.l, r.s, 2)
	b, c := full(t, r.s, 40, 9, 12), full(t, r.s, 2, 2, 2)
	p.steps(t, b, 4)
	q.look(t, poll.Busy)
	q.steps(t, c, 2)
	first := p.finish(t, b)
	q.look(t, poll.Busy)
	second := q.finish(t, c)
	p.look(t, poll.Done)
	if first.how != poll.Done || second.how != poll.Done || first.k == second.k {
		t.Errorf("%+v, %+v", first, second)
	}
}
