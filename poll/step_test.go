package poll_test

import (
	"math"
	"math/rand/v2"
	"slices"
	"testing"

	"aileron/api"
	"aileron/bank"
	"aileron/plan"
	"aileron/poll"
	"aileron/queue"
	"aileron/write"
)

// spots are where the topics of a row lie, rising by their numbers.
func (r row) spots() []plan.Spot {
	at := map[int]plan.Spot{}
	var numbers []int
	for k, x := range r.l {
		at[x.Topic], numbers = r.s[k], append(numbers, x.Topic)
	}
	slices.Sort(numbers)
	var l []plan.Spot
	for _, n := range slices.Compact(numbers) {
		l = append(l, at[n])
	}
	return l
}

// picked is how many words the record has that a poll takes, in a bank that stands so.
func (r row) picked(b *bank.Bank) int {
	found := map[int]uint64{}
	for k, x := range r.l {
		found[x.Topic] = b.Peek(r.s[k].Seq) / 2
	}
	if k := goesFirst(r.l, found); k >= 0 {
		return r.s[k].Words
	}
	return 0
}

// fails does an attempt, and lets it fail at a topic: one more record of that one is published meanwhile. How is what it comes to.
func (p *pair) fails(t *testing.T, b *bank.Bank, r row, topic, how int) {
	t.Helper()
	spots := r.spots()
	p.steps(t, b, len(spots)+r.picked(b)+topic)
	b.Add(spots[topic].Seq, 2)
	if is := p.step(t, b); is != how {
		t.Fatalf("an attempt failed at topic %d: %d, not %d", topic, is, how)
	}
}

// far is a poll that had so many attempts in another bank, and then did so many steps of the next one in this bank.
func far(t *testing.T, r row, attempts, steps int, b *bank.Bank) *pair {
	t.Helper()
	p, other := begin(t, r.l, r.s, attempts+1), b.Clone()
	for i := range attempts {
		p.fails(t, other, r, i%len(r.spots()), poll.Busy)
	}
	p.steps(t, b, steps)
	return p
}

// part is a bank of the first words of another one.
func part(t *testing.T, b *bank.Bank, size int) *bank.Bank {
	t.Helper()
	p, e := bank.New(size)
	if e != api.OK {
		t.Fatal(size, e)
	}
	for at := range size {
		p.Store(at, b.Peek(at))
	}
	return p
}

// loads does one step that should load just this word: a bank that ends ahead of it refuses, one that ends with it does not.
func loads(t *testing.T, again func() *pair, b *bank.Bank, at int) {
	t.Helper()
	for _, size := range []int{at, at + 1} {
		if size == 0 {
			continue
		}
		if how := again().o.Step(part(t, b, size)); (how == poll.Broke) != (size == at) {
			t.Fatalf("word %d, of a bank of %d words: %d", at, size, how)
		}
	}
}

// The chapter's examples.
func TestExamples(t *testing.T) {
	s := []plan.Spot{{Owners: 0, Seq: 1, First: 2, Words: 2, Depth: 3}}
	l := []queue.Sub{sub(0, 0, 1, 2)}
	b, _ := bank.New(8)
	p := begin(t, l, s, 1)
	p.steps(t, b, 1)
	if is := p.finish(t, b); !is.same(told{poll.Done, -1, 0, nil, l, []uint64{0}, 1, 2}) {
		t.Errorf("%+v", is)
	}
	w, e := write.New(s[0], []uint64{5, 6}, 1)
	for e == api.OK && w.Step(b) == write.Busy {
	}
	if b.Peek(1) != 2 {
		t.Fatal(all(b))
	}
	p = begin(t, l, s, 1)
	p.steps(t, b, 3)
	want := told{poll.Done, 0, 1, []uint64{5, 6}, []queue.Sub{{Cursor: queue.Cursor{Next: 2, Cap: 2, Got: 1}}}, []uint64{1}, 1, 4}
	if is := p.finish(t, b); !is.same(want) {
		t.Errorf("%+v", is)
	}
}

// P12.2: which word each step loads, in a first attempt and in later ones: written out, of rows whose topics' numbers rise, fall, and neither.
func TestWhichWordsAreLoaded(t *testing.T) {
	s := lay(shape{2, 2}, shape{3, 3}, shape{1, 4}) // the sequences are 2, 8 and 19, the places from 3, 9 and 20 on
	for i, c := range []struct {
		r         row
		sequences []uint64
		words     []int
	}{
		{row{[]queue.Sub{sub(0, 0, 1, 1)}, s[:1]}, []uint64{0}, []int{2, 2}},
		{row{[]queue.Sub{sub(0, 0, 1, 1)}, s[:1]}, []uint64{2}, []int{2, 5, 6, 2}},
		{row{[]queue.Sub{sub(0, 0, 1, 1)}, s[:1]}, []uint64{5}, []int{2, 3, 4, 2}},
		{row{[]queue.Sub{sub(0, 0, 1, 1), sub(1, 0, 1, 1), sub(2, 0, 1, 1)}, s}, []uint64{0, 0, 0}, []int{2, 8, 19, 2, 8, 19}},
		{row{[]queue.Sub{sub(0, 0, 1, 1), sub(1, 0, 1, 1), sub(2, 0, 1, 1)}, s}, []uint64{0, 0, 5}, []int{2, 8, 19, 22, 2, 8, 19}},
		{row{[]queue.Sub{sub(2, 0, 1, 1), sub(1, 0, 1, 1), sub(0, 0, 1, 1)}, s}, []uint64{0, 4, 0}, []int{19, 8, 2, 15, 16, 17, 19, 8, 2}},
		{row{[]queue.Sub{sub(1, 0, 1, 1), sub(2, 0, 1, 2), sub(0, 0, 1, 3)}, s}, []uint64{1, 8, 9}, []int{19, 2, 8, 9, 10, 11, 19, 2, 8}},
		{row{[]queue.Sub{sub(1, 0, 1, 1), sub(-2, 0, 1, 2), sub(50, 7, 1, 3)}, s}, []uint64{1, 8, 9}, []int{8, 2, 19, 22, 8, 2, 19}},
		{row{[]queue.Sub{sub(math.MaxInt, 0, 1, 1), sub(math.MinInt, 0, 1, 2), sub(-1, 0, 1, 3)}, s}, []uint64{0, 0, 3}, []int{8, 19, 2, 21, 8, 19, 2}},
		{row{[]queue.Sub{sub(7, 0, 9, 1), sub(-2, 0, 1, 2), sub(7, 1, 3, 1), sub(-2, 0, 4, 1)}, []plan.Spot{s[2], s[1], s[2], s[1]}}, []uint64{8, 6}, []int{8, 19, 23, 8, 19}},
		{row{[]queue.Sub{sub(1, 0, 1, 1), sub(2, 0, 1, 1)}, []plan.Spot{{Owners: -1, Seq: 30, First: 1, Words: 2, Depth: 4}, {Owners: 99, Seq: 0, First: 20, Words: 3, Depth: 3}}}, []uint64{0, 7}, []int{30, 0, 7, 8, 30, 0}},
	} {
		for attempts := range 4 {
			b := full(t, c.r.s, c.sequences...)
			for n, word := range c.words {
				loads(t, func() *pair { return far(t, c.r, attempts, n, b) }, b, word)
			}
			p := far(t, c.r, attempts, len(c.words)-1, b)
			if how := p.step(t, b); how != poll.Done {
				t.Errorf("row %d: %d", i, how)
			}
		}
	}
}

// P12.3: what is picked, and what is told of it, written out: three subscriptions of ranks and cursors, of two topics.
func TestWhatIsPicked(t *testing.T) {
	s := lay(shape{1, 4}, shape{2, 3}) // the sequences are 2 and 8, the places from 3 and 9 on
	at := []plan.Spot{s[0], s[1], s[0]}
	for i, c := range []struct {
		ranks     [3]int
		next      [3]uint64
		rooms     [3]int
		sequences [2]uint64
		k         int
		gen       uint64
		words     []uint64
		then      [3]uint64 // each one's Next
		lost      [3]uint64
	}{
		{[3]int{0, 0, 0}, [3]uint64{1, 1, 1}, [3]int{1, 1, 1}, [2]uint64{0, 0}, -1, 0, nil, [3]uint64{1, 1, 1}, [3]uint64{}},                          // nothing was published
		{[3]int{9, 8, 7}, [3]uint64{4, 3, 9}, [3]int{1, 1, 1}, [2]uint64{6, 5}, -1, 0, nil, [3]uint64{4, 3, 9}, [3]uint64{}},                          // all was taken, or comes later
		{[3]int{0, 0, 0}, [3]uint64{1, 1, 1}, [3]int{1, 1, 1}, [2]uint64{1, 1}, -1, 0, nil, [3]uint64{1, 1, 1}, [3]uint64{}},                          // somebody is publishing the first ones
		{[3]int{0, 0, 0}, [3]uint64{1, 1, 2}, [3]int{1, 1, 1}, [2]uint64{2, 0}, 0, 1, []uint64{1004}, [3]uint64{2, 1, 2}, [3]uint64{}},                // the first one alone
		{[3]int{5, 0, 5}, [3]uint64{2, 1, 2}, [3]int{1, 1, 1}, [2]uint64{2, 2}, 1, 1, []uint64{1011, 1012}, [3]uint64{2, 2, 2}, [3]uint64{}},          // the second one alone, of the lowest rank
		{[3]int{5, 5, 0}, [3]uint64{2, 1, 1}, [3]int{1, 1, 1}, [2]uint64{2, 0}, 2, 1, []uint64{1004}, [3]uint64{2, 1, 2}, [3]uint64{}},                // the third one alone, of the lowest rank
		{[3]int{1, 2, 3}, [3]uint64{1, 1, 1}, [3]int{1, 1, 1}, [2]uint64{2, 2}, 2, 1, []uint64{1004}, [3]uint64{1, 1, 2}, [3]uint64{}},                // all: the greatest rank
		{[3]int{1, 3, 2}, [3]uint64{1, 1, 1}, [3]int{1, 1, 1}, [2]uint64{2, 2}, 1, 1, []uint64{1011, 1012}, [3]uint64{1, 2, 1}, [3]uint64{}},          //
		{[3]int{2, 3, 3}, [3]uint64{1, 1, 1}, [3]int{1, 1, 1}, [2]uint64{2, 2}, 1, 1, []uint64{1011, 1012}, [3]uint64{1, 2, 1}, [3]uint64{}},          // two of the greatest rank
		{[3]int{3, 2, 3}, [3]uint64{1, 1, 1}, [3]int{1, 1, 1}, [2]uint64{2, 2}, 0, 1, []uint64{1004}, [3]uint64{2, 1, 1}, [3]uint64{}},                //
		{[3]int{3, 2, 3}, [3]uint64{2, 1, 1}, [3]int{1, 1, 1}, [2]uint64{2, 2}, 2, 1, []uint64{1004}, [3]uint64{2, 1, 2}, [3]uint64{}},                // the first one of these has nothing
		{[3]int{3, 2, 3}, [3]uint64{2, 1, 2}, [3]int{1, 1, 1}, [2]uint64{2, 2}, 1, 1, []uint64{1011, 1012}, [3]uint64{2, 2, 2}, [3]uint64{}},          // both have nothing
		{[3]int{-1, -2, -1}, [3]uint64{1, 1, 1}, [3]int{1, 1, 1}, [2]uint64{2, 2}, 0, 1, []uint64{1004}, [3]uint64{2, 1, 1}, [3]uint64{}},             // ranks below 0
		{[3]int{0, 0, 0}, [3]uint64{1, 1, 1}, [3]int{3, 1, 2}, [2]uint64{12, 0}, 0, 4, []uint64{1003}, [3]uint64{5, 1, 5}, [3]uint64{3, 0, 4}},        // more wait than there is room for
		{[3]int{0, 0, 1}, [3]uint64{1, 1, 3}, [3]int{3, 2, 2}, [2]uint64{13, 41}, 2, 5, []uint64{1004}, [3]uint64{4, 19, 6}, [3]uint64{3, 18, 2}},     //
		{[3]int{0, 1, 0}, [3]uint64{6, 1, 7}, [3]int{3, 1, 2}, [2]uint64{13, 40}, 1, 20, []uint64{1013, 1014}, [3]uint64{6, 21, 7}, [3]uint64{0, 19}}, //
		{[3]int{1, 0, 0}, [3]uint64{4, 1, 5}, [3]int{3, 2, 2}, [2]uint64{12, 0}, 0, 4, []uint64{1003}, [3]uint64{5, 1, 5}, [3]uint64{}},               // just as many as there is room for
		{[3]int{0, 0, 0}, [3]uint64{0, 0, 0}, [3]int{1, 1, 1}, [2]uint64{0, 0}, 0, 0, []uint64{1003}, [3]uint64{1, 0, 0}, [3]uint64{}},                // generation 0, which is there from the beginning
		{[3]int{0, 0, 0}, [3]uint64{0, 0, 0}, [3]int{2, 1, 1}, [2]uint64{3, 2}, 0, 0, []uint64{1003}, [3]uint64{1, 1, 1}, [3]uint64{0, 1, 1}},         //
		{[3]int{0, 0, 1}, [3]uint64{last, 0, last - 1}, [3]int{1, 1, 2}, [2]uint64{greatest, 0}, 2, last - 1, []uint64{1005}, [3]uint64{last, 0, last}, [3]uint64{}},
		{[3]int{2, 0, 1}, [3]uint64{last, 0, last + 1}, [3]int{1, 1, 2}, [2]uint64{greatest - 1, 0}, 0, last, []uint64{1006}, [3]uint64{last + 1, 0, last + 1}, [3]uint64{}},
		{[3]int{2, 0, 1}, [3]uint64{last + 1, last + 1, last + 1}, [3]int{1, 1, 2}, [2]uint64{greatest, greatest}, -1, 0, nil, [3]uint64{last + 1, last + 1, last + 1}, [3]uint64{}},
	} {
		for topics := range 2 { // the numbers of the topics say in which order they are looked at, and nothing else
			var l, then []queue.Sub
			for k, topic := range []int{topics, 1 - topics, topics} {
				l = append(l, sub(topic, c.ranks[k], c.next[k], c.rooms[k]))
				l[k].Cursor.Got, l[k].Cursor.Lost = uint64(10+k), uint64(20+k)
				then = append(then, l[k])
				then[k].Cursor.Next, then[k].Cursor.Lost = c.then[k], uint64(20+k)+c.lost[k]
				if k == c.k {
					then[k].Cursor.Got++
				}
			}
			b := full(t, at, c.sequences[:]...)
			gens := []uint64{c.sequences[0] / 2, c.sequences[1] / 2, c.sequences[0] / 2}
			want := told{poll.Done, c.k, c.gen, c.words, then, gens, 2, 4 + len(c.words)}
			if is := begin(t, l, at, 1).finish(t, b); !is.same(want) {
				t.Errorf("case %d: %+v, not %+v", i, is, want)
			}
		}
	}
}

// P12.2, P12.3: polls that nobody disturbs: rows of all kinds, with sequences of all sizes, held and not, and cursors far behind, close behind and ahead.
func TestAlone(t *testing.T) {
	sequences := []uint64{0, 1, 2, 3, 4, 5, 8, 11, 28, 29, 30, 31, 32, 33, 34, 1 << 33, 1<<63 - 1, 1 << 63, greatest - 4, greatest - 3, greatest - 2, greatest - 1, greatest}
	for i, x := range sequences {
		for _, by := range []int{-20, -3, -2, -1, 0, 1, 2} {
			next := max(int64(x/2)+int64(by), 0)
			if next < 0 {
				next = math.MaxInt64
			}
			for _, words := range []int{1, 2, 64} {
				for depth := 2; depth <= 16; depth++ {
					r := one(shape{words, depth}, uint64(next), 1+i%(depth-1))
					alone(t, r, x)
				}
			}
			for _, r := range rows() {
				for k := range r.l {
					r.l[k].Cursor.Next = uint64(next)
				}
				alone(t, r, x, sequences[(i+7)%len(sequences)], sequences[(i+3)%len(sequences)])
			}
		}
	}
}

// alone goes through a poll that nobody disturbs: it is done with its first attempt.
func alone(t *testing.T, r row, sequences ...uint64) {
	t.Helper()
	b := full(t, r.s, sequences...)
	steps := 2*len(r.spots()) + r.picked(b)
	p := set(r.l, r.s, 1)
	o := fresh(t, r.l, r.s, 1)
	was := all(b)
	touches := b.Touches()
	for range steps {
		p.step(b)
		if how := o.Step(b); !tells(o, how).same(p.now) {
			t.Fatalf("%+v, of %v: %+v, not %+v", r, sequences, tells(o, how), p.now)
		}
	}
	if p.now.how != poll.Done || o.At() != len(r.spots()) || steps > poll.Most(r.s, 1) || b.Touches() != touches+steps || !slices.Equal(all(b), was) {
		t.Fatalf("%+v, of %v: %+v, %d accesses", r, sequences, p.now, b.Touches()-touches)
	}
}

// P12.2: a sequence that is taken, or given, between the first round and the second one, of each of the topics, picked or not, behind each step: one that is taken is the same generation still, one that is given is not.
func TestTurnedMeanwhile(t *testing.T) {
	for _, r := range []row{ordinary(), one(shape{2, 2}, 1, 1), one(shape{2, 3}, 900, 1), many(4, shape{2, 2}), turned(func(r *row) { slices.Reverse(r.l); slices.Reverse(r.s) })} {
		spots := r.spots()
		for _, first := range []uint64{0, 1, 2, 3, 6, 7, 30, 31, 1 << 40, 1<<40 + 1, greatest - 7, greatest - 6} {
			for by := range uint64(6) {
				for topic := range spots {
					n := len(spots) + r.picked(full(t, r.s, first)) // how many steps there are ahead of the second round
					for behind := topic + 1; behind < n+len(spots); behind++ {
						b, p := full(t, r.s, first), begin(t, r.l, r.s, 1)
						p.steps(t, b, behind)
						b.Add(spots[topic].Seq, by)
						is, how, steps := p.finish(t, b), poll.Done, n+len(spots)
						if behind <= n+topic && (first+by)/2 != first/2 { // it is loaded once more, and is another one
							how, steps = poll.Spent, n+topic+1
						}
						if is.how != how || is.steps != steps {
							t.Fatalf("%+v: topic %d, behind %d steps, from %d by %d: %d with %d steps, not %d, %d", r, topic, behind, first, by, is.how, is.steps, how, steps)
						}
					}
				}
			}
		}
	}
}

// P12.2: one that is turned ahead of its first Load is found as it is then.
func TestTurnedAhead(t *testing.T) {
	r := ordinary()
	for topic, s := range r.spots() {
		for behind := range topic + 1 {
			for by := range uint64(12) {
				b, p := full(t, r.s, 4, 7, 5), begin(t, r.l, r.s, 1)
				p.steps(t, b, behind)
				b.Add(s.Seq, by)
				is := p.finish(t, b)
				if is.how != poll.Done {
					t.Fatalf("topic %d, behind %d steps, by %d: %+v", topic, behind, by, is)
				}
				for k, x := range r.s {
					if is.gens[k] != b.Peek(x.Seq)/2 {
						t.Fatalf("topic %d, behind %d steps, by %d: %+v", topic, behind, by, is)
					}
				}
			}
		}
	}
}

// P12.2: the edges of that, written out: held or not is not looked at, only which generation it is.
func TestTurnedMeanwhileAtTheEdges(t *testing.T) {
	for _, c := range []struct {
		first, last uint64
		how         int
	}{
		{0, 0, poll.Done}, {0, 1, poll.Done}, {0, 2, poll.Spent}, {0, 3, poll.Spent}, {1, 1, poll.Done}, {1, 0, poll.Done}, {1, 2, poll.Spent}, {1, 3, poll.Spent},
		{10, 11, poll.Done}, {11, 10, poll.Done}, {10, 12, poll.Spent}, {11, 12, poll.Spent}, {10, 9, poll.Spent}, {11, 9, poll.Spent}, {10, 0, poll.Spent}, {10, 26, poll.Spent}, {10, 42, poll.Spent}, {10, 1 << 40, poll.Spent},
		{greatest, greatest, poll.Done}, {greatest, greatest - 1, poll.Done}, {greatest - 1, greatest, poll.Done}, {greatest - 1, greatest - 1, poll.Done}, {greatest - 2, greatest - 1, poll.Spent}, {greatest - 1, greatest - 2, poll.Spent},
		{10, 10 + 1<<33, poll.Spent}, {10 + 1<<40, 10, poll.Spent}, {11, 11 + 1<<63, poll.Spent},
		{greatest, 0, poll.Spent}, {greatest - 1, 0, poll.Spent}, {0, greatest, poll.Spent}, {1, greatest - 1, poll.Spent}, {greatest, 1, poll.Spent},
	} {
		for _, next := range []uint64{0, last + 1} { // something is picked, and nothing
			for _, r := range []row{one(shape{2, 2}, 0, 1), one(shape{1, 16}, 0, 15), many(2, shape{1, 3}), many(64, shape{1, 2})} {
				for k := range r.l {
					r.l[k].Cursor.Next = next
				}
				spots := r.spots()
				for _, topic := range []int{0, len(spots) - 1} {
					b, p := full(t, r.s, c.first), begin(t, r.l, r.s, 1)
					p.steps(t, b, len(spots)+r.picked(b))
					b.Store(spots[topic].Seq, c.last)
					if is := p.finish(t, b); is.how != c.how {
						t.Fatalf("%d topics, the one at %d from %d to %d: %+v", len(spots), topic, c.first, c.last, is)
					}
				}
			}
		}
	}
}

// P12.2, P12.3: words are told as they were loaded, of the record that the first round led to; a sequence that is turned, and turned back, while they are loaded is not looked at.
func TestTurnedBetweenTheWords(t *testing.T) {
	r := row{[]queue.Sub{sub(1, 0, 1, 1), sub(0, 1, 3, 2)}, lay(shape{2, 2}, shape{3, 4})}
	b, p := full(t, r.s, 2, 10), begin(t, r.l, r.s, 1)
	p.steps(t, b, 2)
	for n := range 3 { // generation 4 has the first one of 4 places
		b.Store(r.s[0].Seq, []uint64{40, 0, 7}[n])
		b.Store(r.s[1].Seq, []uint64{9, 50, greatest}[n])
		b.Store(r.s[1].First+n, 50+uint64(n))
		p.steps(t, b, 1)
		b.Store(r.s[1].First+n, 60)
	}
	b.Store(r.s[0].Seq, 3)
	b.Store(r.s[1].Seq, 11)
	p.steps(t, b, 1)
	b.Store(r.s[1].Seq, 70)
	want := told{poll.Done, 1, 4, []uint64{50, 51, 52}, []queue.Sub{r.l[0], {Topic: 0, Rank: 1, Cursor: queue.Cursor{Next: 5, Cap: 2, Got: 1, Lost: 1}}}, []uint64{1, 5}, 2, 7}
	if is := p.finish(t, b); !is.same(want) {
		t.Errorf("%+v, not %+v", is, want)
	}
}

// P12.2: attempts that fail, at each of the topics, as often as it may try, spend it.
func TestSpent(t *testing.T) {
	for _, r := range rows() {
		for tries := 1; tries <= 16; tries++ {
			n := len(r.spots())
			for _, topic := range []int{0, n / 2, n - 1} {
				b, p := full(t, r.s, uint64(tries), 8), begin(t, r.l, r.s, tries)
				for range tries - 1 {
					p.fails(t, b, r, topic, poll.Busy)
				}
				p.fails(t, b, r, topic, poll.Spent)
				steps := p.o.Steps()
				p.step(t, b)
				if is := tells(p.o, poll.Spent); !is.same(nothing(poll.Spent, steps)) {
					t.Fatalf("%+v", is)
				}
			}
		}
	}
}

// P12.2, P12.3: attempts that fail, up to once less than it may try: the last one is Done, and tells what it found and loaded alone, be it less than those ahead of it did.
func TestTheLastAttempt(t *testing.T) {
	for _, r := range rows() {
		for tries := 1; tries <= 16; tries++ {
			for failed := range tries {
				n := len(r.spots())
				b, p := full(t, r.s, 12, 9), begin(t, r.l, r.s, tries)
				for i := range failed {
					p.fails(t, b, r, i%n, poll.Busy)
				}
				steps := p.o.Steps()
				for i, s := range r.s {
					b.Store(s.Seq, uint64(failed%2*(40+s.Seq%7)+i%2))
				}
				took := r.picked(b)
				p.steps(t, b, 2*n+took-1)
				if is := p.finish(t, b); is.how != poll.Done || is.at != steps+n || len(is.words) != took || is.steps != steps+2*n+took || (is.k < 0) != (took == 0) {
					t.Fatalf("%+v", is)
				}
			}
		}
	}
}

// P12.2, P12.3: an attempt that picked one fails, the next one picks none, and the next one another one: nothing is left of those ahead.
func TestNothingIsLeftOfAnAttempt(t *testing.T) {
	r := row{[]queue.Sub{sub(0, 2, 5, 1), sub(1, 1, 5, 1)}, lay(shape{3, 2}, shape{1, 2})}
	for tries := 2; tries <= 3; tries++ {
		b, p := full(t, r.s, 10, 10), begin(t, r.l, r.s, tries)
		p.fails(t, b, r, 0, poll.Busy)
		b.Store(r.s[0].Seq, 8)
		b.Store(r.s[1].Seq, 8)
		want := told{poll.Done, -1, 0, nil, r.l, []uint64{4, 4}, 8, 10}
		if tries == 3 {
			p.fails(t, b, r, 1, poll.Busy)
			want = told{poll.Done, 1, 5, []uint64{b.Peek(place(r.s[1], 5))}, []queue.Sub{r.l[0], {Topic: 1, Rank: 1, Cursor: queue.Cursor{Next: 6, Cap: 1, Got: 1}}}, []uint64{4, 5}, 12, 15}
		}
		if is := p.finish(t, b); !is.same(want) {
			t.Errorf("%+v, not %+v", is, want)
		}
	}
}

// P12.2: a nil bank breaks it at each kind of step, in each attempt; a bank that is right does not mend it.
func TestNilBank(t *testing.T) {
	r := ordinary()
	for attempts := range 4 {
		for at := range 9 {
			b := full(t, r.s, 40, 9, 12)
			p := far(t, r, attempts, at, b)
			want := nothing(poll.Broke, p.o.Steps())
			for _, x := range []*bank.Bank{nil, b, nil, b} {
				if how := p.step(t, x); !tells(p.o, how).same(want) {
					t.Fatalf("attempt %d, step %d: %+v", attempts, at, tells(p.o, how))
				}
			}
		}
	}
}

// P12.2: so does a bank that is too small, at each kind of step.
func TestSmallBank(t *testing.T) {
	for _, r := range rows() {
		for attempts := range 3 {
			b := full(t, r.s, 40, 9, 12)
			for at := range 2*len(r.spots()) + r.picked(b) {
				size := far(t, r, attempts, at, b).w.word // the word that is loaded next
				for _, small := range []int{1, size - 1, size} {
					if small < 1 || small > size {
						continue
					}
					p := far(t, r, attempts, at, b)
					want := nothing(poll.Broke, p.o.Steps())
					p.step(t, part(t, b, small))
					if how := p.step(t, b); !tells(p.o, how).same(want) {
						t.Fatalf("attempt %d, step %d, %d words: %+v", attempts, at, small, tells(p.o, how))
					}
				}
			}
		}
	}
}

// P12.2: spots that are right, with words that no bank has, break where these are met; the owners' word is not met at all, nor are the places of one that is not picked.
func TestSpotsBeyondABank(t *testing.T) {
	b, e := bank.New(api.MaxBank)
	if e != api.OK {
		t.Fatal(e)
	}
	right := plan.Spot{Owners: 1, Seq: 2, First: 3, Words: 2, Depth: 2}
	for _, c := range []struct {
		s     plan.Spot
		how   int
		steps int // if its topic is the second one, and is picked
		first int // if it is the first one, and is picked
		none  int // if nothing is picked, how it ends
	}{
		{plan.Spot{Owners: 5, Seq: 1048576, First: 7, Words: 1, Depth: 2}, poll.Broke, 1, 0, poll.Broke},
		{plan.Spot{Owners: 5, Seq: -1, First: 7, Words: 1, Depth: 2}, poll.Broke, 1, 0, poll.Broke},
		{plan.Spot{Owners: 5, Seq: math.MaxInt, First: 7, Words: 1, Depth: 2}, poll.Broke, 1, 0, poll.Broke},
		{plan.Spot{Owners: 5, Seq: math.MinInt, First: 7, Words: 1, Depth: 2}, poll.Broke, 1, 0, poll.Broke},
		{plan.Spot{Owners: 5, Seq: 20, First: 1048576, Words: 1, Depth: 2}, poll.Broke, 2, 2, poll.Done},
		{plan.Spot{Owners: 5, Seq: 20, First: 1048575, Words: 1, Depth: 2}, poll.Done, 5, 5, poll.Done},
		{plan.Spot{Owners: 5, Seq: 20, First: 1048575, Words: 2, Depth: 2}, poll.Broke, 3, 3, poll.Done},
		{plan.Spot{Owners: 5, Seq: 20, First: 1048512, Words: 64, Depth: 16}, poll.Done, 68, 68, poll.Done},
		{plan.Spot{Owners: 1048576, Seq: 20, First: 40, Words: 1, Depth: 2}, poll.Done, 5, 5, poll.Done},
		{plan.Spot{Owners: -1, Seq: 1048575, First: 40, Words: 1, Depth: 2}, poll.Done, 5, 5, poll.Done},
		{plan.Spot{Owners: 0, Seq: 0, First: 0, Words: 1, Depth: 2}, poll.Done, 5, 5, poll.Done},
	} {
		for topic, steps := range []int{c.first, c.steps} {
			s := []plan.Spot{c.s, right}
			o := fresh(t, []queue.Sub{sub(topic, 0, 0, 1), sub(1-topic, 0, 1, 1)}, s, 1)
			if how := end(t, o, b); how != c.how || o.Steps() != steps {
				t.Errorf("%+v: %d, %d steps, not %d, %d", c.s, how, o.Steps(), c.how, steps)
			}
			o = fresh(t, []queue.Sub{sub(topic, 0, 1, 1), sub(1-topic, 0, 1, 1)}, s, 1)
			if how := end(t, o, b); how != c.none {
				t.Errorf("%+v, not picked: %d, not %d", c.s, how, c.none)
			}
			o = fresh(t, []queue.Sub{sub(topic, 0, 0, 1), sub(1-topic, 1, 0, 1)}, s, 1)
			if how := end(t, o, b); how != c.none {
				t.Errorf("%+v, and the other one picked: %d, not %d", c.s, how, c.none)
			}
		}
	}
}

// P12.2: what has ended stays as it ended, whatever bank is handed in.
func TestEndedOnes(t *testing.T) {
	r := ordinary()
	for _, how := range []int{poll.Done, poll.Spent, poll.Broke} {
		b := full(t, r.s, 40, 9, 12)
		p := far(t, r, 0, 8, b)
		x := b
		switch how {
		case poll.Spent:
			b.Add(r.spots()[2].Seq, 2)
		case poll.Broke:
			x = nil
		}
		is := p.step(t, x)
		was := tells(p.o, is)
		if is != how || (was.at == 3) != (how == poll.Done) || (was.steps == 8) != (how == poll.Broke) {
			t.Errorf("%+v", was)
		}
		other := full(t, r.s, 10)
		for _, x := range []*bank.Bank{b, other, nil, b, other} {
			if is := p.step(t, x); !tells(p.o, is).same(was) {
				t.Errorf("%+v, not %+v", tells(p.o, is), was)
			}
		}
	}
}

// P12.3: ahead of Done nothing is told, behind each step.
func TestAheadOfDone(t *testing.T) {
	for _, r := range rows() {
		b := full(t, r.s, 40, 9, 12)
		p := begin(t, r.l, r.s, 3)
		p.fails(t, b, r, 0, poll.Busy)
		steps := p.o.Steps()
		for n := range 2*len(r.spots()) + r.picked(b) {
			if is := tells(p.o, poll.Busy); !is.same(nothing(poll.Busy, steps+n)) {
				t.Fatalf("%+v", is)
			}
			p.step(t, b)
		}
		if is := tells(p.o, poll.Done); is.at != steps+len(r.spots()) || len(is.subs) != len(r.l) || len(is.gens) != len(r.l) {
			t.Errorf("%+v", is)
		}
	}
}

// P12.2, P12.3: a nil poll.
func TestNilPoll(t *testing.T) {
	var o *poll.Op
	b := full(t, ordinary().s, 2)
	touches := b.Touches()
	for _, x := range []*bank.Bank{b, nil, b} {
		if how := o.Step(x); !tells(o, how).same(nothing(poll.Broke, 0)) {
			t.Errorf("%+v", tells(o, how))
		}
	}
	if b.Touches() != touches {
		t.Errorf("%d accesses", b.Touches()-touches)
	}
}

// P12.2: publishings, step by step, behind each step of a poll: the sequence that write takes and gives, of each topic.
func TestPublishedMeanwhile(t *testing.T) {
	r := ordinary()
	for topic, s := range r.spots() {
		for behind := range 10 {
			for steps := range s.Words + 4 {
				b := full(t, r.s, 40, 8, 12)
				w, e := write.New(s, slices.Repeat([]uint64{7}, s.Words), 1)
				if e != api.OK {
					t.Fatal(e)
				}
				p := begin(t, r.l, r.s, 1)
				for range behind {
					p.step(t, b)
				}
				for range steps {
					w.Step(b)
				}
				for p.step(t, b) == poll.Busy {
				}
				want := poll.Done
				if steps == s.Words+3 && behind > topic && behind <= 6+topic {
					want = poll.Spent
				}
				if is := p.step(t, b); is != want {
					t.Fatalf("topic %d, %d steps behind %d: %d, not %d", topic, steps, behind, is, want)
				}
			}
		}
	}
}

// drawn is a row of subscriptions whose topics may lie across one another, and beyond a bank of 30 words.
func drawn(r *rand.Rand) row {
	var spots []plan.Spot
	for _, at := range r.Perm(6)[:1+r.IntN(4)] {
		spots = append(spots, plan.Spot{Owners: r.IntN(40), Seq: at, First: r.IntN(18), Words: 1 + r.IntN(3), Depth: 2 + r.IntN(3)})
	}
	numbers := r.Perm(9)
	var x row
	for range 1 + r.IntN(6) {
		n := r.IntN(len(spots))
		x.l = append(x.l, sub(numbers[n]-3, r.IntN(3), uint64(r.IntN(1+r.IntN(8))), 1+r.IntN(spots[n].Depth-1)))
		x.s = append(x.s, spots[n])
	}
	return x
}

// P12.2, P12.3: polls of drawn rows, disturbed by others and by banks that change, against the words.
func TestAgainstTheWords(t *testing.T) {
	r := rand.New(rand.NewPCG(12, 2))
	ends := map[int]int{}
	for range 4000 {
		x := drawn(r)
		banks := []*bank.Bank{nil, nil, nil}
		banks[0], _ = bank.New(30)
		banks[1], _ = bank.New(1 + r.IntN(30))
		for at := range 30 {
			banks[0].Store(at, uint64(r.IntN(20)))
			banks[1].Store(at, uint64(r.IntN(20)))
		}
		p, often := begin(t, x.l, x.s, 1+r.IntN(3)), 1+r.IntN(1+r.IntN(20))
		how, steps := poll.Busy, 0
		for range 60 {
			k := 0
			if r.IntN(60) == 0 {
				k = 1 + r.IntN(2)
			}
			if r.IntN(often) == 0 {
				by := uint64(r.IntN(4))
				if r.IntN(20) == 0 {
					by = greatest - 3
				}
				banks[0].Add(r.IntN(6+14*r.IntN(2)), by)
			}
			how = p.step(t, banks[k])
		}
		p.w.stop()
		is := tells(p.o, how)
		steps = is.steps
		ends[how]++
		if how == poll.Done && steps > poll.Most(x.s, 1) {
			ends[-1]++
		}
		if how == poll.Done && is.k >= 0 {
			ends[-2]++
		}
	}
	for _, how := range []int{poll.Done, poll.Spent, poll.Broke, -1, -2} {
		if ends[how] < 100 {
			t.Errorf("only %d ended %d, of %v", ends[how], how, ends)
		}
	}
}
