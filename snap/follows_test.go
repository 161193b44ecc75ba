package snap_test

import (
	"math/rand/v2"
	"slices"
	"testing"

	"aileron/api"
	"aileron/bank"
	"aileron/orders"
	"aileron/plan"
	"aileron/snap"
	"aileron/write"
)

// record is words that no other record has any of.
func record(words int, mark uint64) []uint64 {
	l := make([]uint64, words)
	for n := range l {
		l[n] = mark<<32 + uint64(n) + 1
	}
	return l
}

// publisher publishes records of a topic, one behind the other.
type publisher struct {
	topic int
	left  int // how many records it has still to begin
	words []uint64
	op    *write.Op
}

// snapper reads the newest records of some topics, again and again.
type snapper struct {
	topics []int
	left   int // how often it has still to begin
	op     *snap.Op
	began  int   // how many steps were done as its try began
	newest []int // of all topics, which records were the newest ones behind the access At
	saw    []int // of its own ones, which were the newest ones as they were loaded
	at     int
	missed int // how many of its tries found a record that was not the newest one any more
}

// race is snappers of topics, and publishers, looked at from outside.
type race struct {
	t          *testing.T
	l          []plan.Spot
	b          *bank.Bank
	tries      int
	records    [][][]uint64 // of each topic, by their generations
	begun      uint64
	publishers []*publisher
	snappers   []*snapper
	counts     counts
}

// counts tell what races came to.
type counts struct {
	done  int
	later int // of the done ones, such as tried again
	old   int // of the done ones, such as told a record that was not the newest one any more
	spent int
	held  int // of the done ones, such as ended while somebody held the sequence of one of their topics
}

// add adds what another race came to.
func (c *counts) add(d counts) {
	c.done += d.done
	c.later += d.later
	c.old += d.old
	c.spent += d.spent
	c.held += d.held
}

// start is a race on topics that have some records already.
func start(t *testing.T, l []plan.Spot, tries int, earlier func(topic int) int) *race {
	t.Helper()
	last := l[len(l)-1]
	b, e := bank.New(last.First + last.Words*last.Depth)
	if e != api.OK {
		t.Fatal(e)
	}
	r := &race{t: t, l: l, b: b, tries: tries}
	for topic, s := range l {
		r.records = append(r.records, [][]uint64{make([]uint64, s.Words)})
		p := &publisher{topic: topic, left: earlier(topic)}
		for p.op != nil || p.left > 0 {
			r.publish(p)
		}
	}
	return r
}

// run does all steps, in the order that is chosen.
func (r *race) run(choose func(n int) int) {
	r.t.Helper()
	for range 1000000 {
		var ready []func()
		for _, p := range r.publishers {
			if p.op != nil || p.left > 0 {
				ready = append(ready, func() { r.publish(p) })
			}
		}
		for _, k := range r.snappers {
			if k.op != nil || k.left > 0 {
				ready = append(ready, func() { r.snap(k) })
			}
		}
		if len(ready) == 0 {
			return
		}
		ready[choose(len(ready))]()
	}
	r.t.Fatal("a race without an end")
}

// publish does a publisher's next step.
func (r *race) publish(p *publisher) {
	r.t.Helper()
	s := r.l[p.topic]
	if p.op == nil {
		r.begun++
		p.left--
		p.words = record(s.Words, r.begun)
		o, e := write.New(s, p.words, 1)
		if e != api.OK {
			r.t.Fatal(e)
		}
		p.op = o
	}
	how := p.op.Step(r.b)
	if how == write.Busy {
		return
	}
	if how == write.Done {
		r.records[p.topic] = append(r.records[p.topic], p.words)
	}
	p.op = nil
}

// newest is which record of a topic is the newest one.
func (r *race) newest(topic int) int { return len(r.records[topic]) - 1 }

// spots are the spots of some topics.
func (r *race) spots(topics []int) []plan.Spot {
	var l []plan.Spot
	for _, topic := range topics {
		l = append(l, r.l[topic])
	}
	return l
}

// snap does a snapper's next step, and looks at what it comes to.
func (r *race) snap(k *snapper) {
	r.t.Helper()
	l := r.spots(k.topics)
	if k.op == nil {
		*k = snapper{topics: k.topics, left: k.left - 1, op: begin(r.t, l, r.tries)}
	}
	how, done := snap.Busy, k.op.Steps()-k.began
	switch last := done - len(l) - width(l); {
	case done < len(l):
		r.first(k, done)
	case last >= 0:
		how = r.last(k, last)
	}
	touches := r.b.Touches()
	if got := k.op.Step(r.b); got != how || r.b.Touches() != touches+1 || k.op.Steps() > snap.Most(l, r.tries) {
		r.t.Fatalf("step %d of %d at most: %d, not %d", k.op.Steps(), snap.Most(l, r.tries), got, how)
	}
	if how != snap.Busy {
		r.ended(k, how)
		k.op = nil
	}
}

// first looks at what is the newest one, as a try loads the sequence of a topic, and, with the last one of them, at all topics.
func (r *race) first(k *snapper, at int) {
	if at == 0 {
		k.saw = nil
	}
	k.saw = append(k.saw, r.newest(k.topics[at]))
	if at < len(k.topics)-1 {
		return
	}
	k.newest, k.at = nil, k.op.Steps()+1
	for topic := range r.l {
		k.newest = append(k.newest, r.newest(topic))
	}
}

// last tells how the last Load of a topic's sequence should come out.
func (r *race) last(k *snapper, at int) int {
	if r.newest(k.topics[at]) != k.saw[at] {
		k.began = k.op.Steps() + 1
		k.missed++
		if k.missed == r.tries {
			return snap.Spent
		}
		return snap.Busy
	}
	if at == len(k.topics)-1 {
		return snap.Done
	}
	return snap.Busy
}

// ended looks at what a snapshot tells at its end.
func (r *race) ended(k *snapper, how int) {
	r.t.Helper()
	if how == snap.Spent {
		r.counts.spent++
		tellsNothing(r.t, "spent", k.op, k.op.Steps())
		return
	}
	r.counts.done++
	var words, gens []uint64
	old, held := false, false
	for _, topic := range k.topics {
		words = append(words, r.records[topic][k.newest[topic]]...)
		gens = append(gens, uint64(k.newest[topic]))
		old = old || k.newest[topic] < r.newest(topic)
		held = held || r.b.Peek(r.l[topic].Seq)%2 == 1
	}
	if k.missed > 0 {
		r.counts.later++
	}
	if old {
		r.counts.old++
	}
	if held {
		r.counts.held++
	}
	tells(r.t, "in a race", k.op, words, gens, k.at, k.began+2*len(k.topics)+len(words))
}

// P10.4: snapshots beside publishings, in every order of their steps.
func TestEveryOrder(t *testing.T) {
	type pub struct{ topic, records int }
	for _, c := range []struct {
		shapes            []shape
		topics            []int
		tries             int
		snapshots         []int // of each snapper how many
		publishers        []pub
		earlier           int
		spent, later, old bool // whether some are spent, some are done that tried again, and some are done though a record came before they ended
	}{
		{[]shape{{1, 2}}, []int{0}, 1, []int{1}, []pub{{0, 2}}, 0, true, false, false},
		{[]shape{{1, 2}}, []int{0}, 2, []int{1}, []pub{{0, 2}}, 1, true, true, false},
		{[]shape{{3, 2}}, []int{0}, 1, []int{1}, []pub{{0, 2}}, 3, true, false, false},
		{[]shape{{1, 2}}, []int{0}, 1, []int{1, 1}, []pub{{0, 1}}, 0, true, false, false},
		{[]shape{{1, 2}}, []int{0}, 1, []int{1}, []pub{{0, 1}, {0, 1}}, 0, true, false, false},
		{[]shape{{1, 2}}, []int{0, 0}, 1, []int{1}, []pub{{0, 2}}, 1, true, false, false},
		{[]shape{{1, 2}, {1, 2}}, []int{0, 1}, 1, []int{1}, []pub{{0, 1}}, 0, true, false, true},
		{[]shape{{1, 2}, {1, 2}}, []int{0, 1}, 1, []int{1}, []pub{{1, 2}}, 1, true, false, false},
		{[]shape{{1, 2}, {1, 2}}, []int{1, 0}, 1, []int{1}, []pub{{0, 1}, {1, 1}}, 1, true, false, true},
		{[]shape{{1, 2}, {1, 3}}, []int{0, 1}, 2, []int{1}, []pub{{0, 1}}, 2, false, true, true},
		{[]shape{{1, 2}, {2, 2}}, []int{0, 1}, 2, []int{1}, []pub{{1, 1}}, 1, false, true, false},
		{[]shape{{2, 2}, {1, 2}}, []int{0, 1}, 1, []int{2}, []pub{{0, 1}}, 1, true, false, true},
		{[]shape{{1, 2}, {1, 2}, {1, 2}}, []int{2, 0, 1}, 1, []int{1}, []pub{{0, 1}}, 1, true, false, true},
		{[]shape{{1, 2}, {1, 2}, {1, 2}}, []int{0, 1, 2}, 1, []int{1}, []pub{{1, 2}}, 0, true, false, true},
	} {
		l, ended := lay(c.shapes...), 0
		for _, n := range c.snapshots {
			ended += n
		}
		var sum counts
		runs := orders.Every(func(choose func(n int) int) {
			r := start(t, l, c.tries, func(int) int { return c.earlier })
			for _, n := range c.snapshots {
				r.snappers = append(r.snappers, &snapper{topics: c.topics, left: n})
			}
			for _, p := range c.publishers {
				r.publishers = append(r.publishers, &publisher{topic: p.topic, left: p.records})
			}
			r.run(choose)
			if r.counts.done+r.counts.spent != ended {
				t.Fatalf("%+v: %+v", c, r.counts)
			}
			sum.add(r.counts)
		})
		if runs < 100 || sum.held == 0 || (sum.spent > 0) != c.spent || (sum.later > 0) != c.later || (sum.old > 0) != c.old {
			t.Errorf("%+v: %d orders, %+v", c, runs, sum)
		}
	}
}

// chosen are so many topics out of all, in an order that is drawn; now and then one of them twice.
func chosen(d *rand.Rand, all, n int) []int {
	topics := d.Perm(all)[:n]
	if d.IntN(4) == 0 && n > 1 {
		topics[d.IntN(n)] = topics[d.IntN(n)]
	}
	return topics
}

// P10.4: many snappers and publishers of many topics of all depths, in orders that are drawn.
func TestManySnappers(t *testing.T) {
	d := rand.New(rand.NewPCG(10, 4))
	var sum counts
	for range 1200 {
		var shapes []shape
		for range 1 + d.IntN(12) {
			shapes = append(shapes, shape{1 + d.IntN(1+d.IntN(12)), 2 + d.IntN(1+d.IntN(15))})
		}
		r := start(t, lay(shapes...), 1+d.IntN(1+d.IntN(16)), func(int) int { return d.IntN(10) })
		for range 1 + d.IntN(3) {
			r.snappers = append(r.snappers, &snapper{topics: chosen(d, len(shapes), 1+d.IntN(len(shapes))), left: 1 + d.IntN(8)})
		}
		for range 1 + d.IntN(4) {
			r.publishers = append(r.publishers, &publisher{topic: d.IntN(len(shapes)), left: d.IntN(30)})
		}
		run, last := 1+d.IntN(60), 0 // one that was chosen goes on for a while, of some length
		r.run(func(n int) int {
			if d.IntN(run) == 0 {
				last = d.IntN(n)
			}
			return min(last, n-1)
		})
		sum.add(r.counts)
	}
	if sum.done < 1000 || sum.later < 100 || sum.old < 30 || sum.spent < 100 || sum.held < 100 {
		t.Errorf("%+v", sum)
	}
}

// P10.4: as many topics as there may be, of which now and then one is published.
func TestAsManyTopicsAsThereMayBe(t *testing.T) {
	d := rand.New(rand.NewPCG(10, 64))
	var sum counts
	for range 20 {
		r := start(t, many(64, shape{1 + d.IntN(3), 2 + d.IntN(3)}), 16, func(int) int { return d.IntN(4) })
		r.snappers = []*snapper{{topics: d.Perm(64), left: 2}, {topics: d.Perm(64)[:63], left: 2}}
		for range 4 {
			r.publishers = append(r.publishers, &publisher{topic: d.IntN(64), left: 1 + d.IntN(8)})
		}
		r.run(func(n int) int {
			if d.IntN(40) == 0 {
				return d.IntN(n)
			}
			return n - 1
		})
		sum.add(r.counts)
	}
	if sum.done < 40 || sum.later < 10 || sum.old < 5 {
		t.Errorf("%+v", sum)
	}
}

// P10.4: while nobody publishes a snapshot is Done at once, with as few tries as there may be; also while somebody holds sequences, and does not go on: behind each of the steps of publishings.
func TestNobodyGoesOn(t *testing.T) {
	for _, l := range [][]plan.Spot{lay(shape{1, 2}), lay(shape{2, 3}, shape{1, 2}), ordinary(), lay(shape{64, 2}, shape{1, 16}), many(64, shape{1, 2})} {
		for _, tries := range []int{1, 16} {
			for earlier := range 5 {
				r := start(t, l, tries, func(topic int) int { return (earlier + topic) % 5 })
				var topics []int
				for topic := range l {
					topics = append(topics, topic)
					r.publishers = append(r.publishers, &publisher{topic: topic, left: 1})
				}
				for i := range 2 * len(l) { // each other round another one goes on
					k := &snapper{topics: topics, left: 1}
					for range 2*len(l) + width(l) {
						r.snap(k)
					}
					if k.op != nil || k.missed != 0 || r.counts.done != i+1 {
						t.Fatalf("%d topics, %d earlier: not done at once", len(l), earlier)
					}
					for range 1 + i%3 {
						r.publish(r.publishers[i%len(l)])
					}
				}
				if len(l) > 1 && r.counts.held == 0 {
					t.Errorf("%d topics, %d earlier: nobody held a sequence", len(l), earlier)
				}
			}
		}
	}
}

// P10.4: a record that is begun and given while a snapshot is under way, of each of its topics, spends a try; one of another topic does not, however many there are.
func TestRecordsOfOtherTopics(t *testing.T) {
	l := many(4, shape{2, 2})
	for topic := range l {
		r := start(t, l, 1, func(int) int { return 3 })
		k, p := &snapper{topics: []int{2, 0, 1}, left: 1}, &publisher{topic: topic, left: 100}
		for range 4 {
			r.snap(k)
		}
		for range 5 * 100 {
			r.publish(p)
		}
		for k.op != nil {
			r.snap(k)
		}
		want := counts{spent: 1}
		if topic == 3 {
			want = counts{done: 1}
		}
		if r.counts != want || r.newest(topic) != 103 {
			t.Errorf("topic %d: %+v", topic, r.counts)
		}
	}
}

// P10.4: whoever takes snapshots, one behind the other, reads no elder record of any topic behind a newer one, whatever comes in between.
func TestNoElderRecord(t *testing.T) {
	l := lay(shape{1, 2}, shape{1, 3})
	runs := orders.Every(func(choose func(n int) int) {
		r := start(t, l, 2, func(topic int) int { return topic })
		p := []*publisher{{topic: 0, left: 1}}
		last := []uint64{0, 0}
		for range 2 {
			o := begin(t, l, 2)
			for how := snap.Busy; how == snap.Busy; {
				if (p[0].op != nil || p[0].left > 0) && choose(2) == 1 {
					r.publish(p[0])
					continue
				}
				how = o.Step(r.b)
			}
			words, gens := o.Got()
			if len(gens) != 2 || gens[0] < last[0] || gens[1] < last[1] || !slices.Equal(words, append(slices.Clone(r.records[0][gens[0]]), r.records[1][gens[1]]...)) {
				t.Fatalf("generations %v, %v, behind generations %v", gens, words, last)
			}
			last = gens
		}
	})
	if runs < 100 {
		t.Errorf("%d orders", runs)
	}
}
