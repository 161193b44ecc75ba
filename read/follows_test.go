package read_test

import (
	"math/rand/v2"
	"slices"
	"testing"

	"aileron/api"
	"aileron/bank"
	"aileron/orders"
	"aileron/plan"
	"aileron/read"
	"aileron/write"
)

// record is words that no other record of a topic has any of.
func record(words int, mark uint64) []uint64 {
	all := make([]uint64, words)
	for n := range all {
		all[n] = mark<<32 + uint64(n) + 1
	}
	return all
}

// publisher publishes records of a topic, one behind the other.
type publisher struct {
	left  int // how many records it has still to begin
	words []uint64
	op    *write.Op
}

// reader reads the newest record of a topic, again and again.
type reader struct {
	left   int // how often it has still to begin
	op     *read.Op
	newest int // which record was the newest one as its try began
	at     int // with which of its steps that was
	missed int // how many of its tries met so many records that the one they read was not whole any more
}

// race is readers of a topic, and publishers, looked at from outside.
type race struct {
	t          *testing.T
	s          plan.Spot
	b          *bank.Bank
	tries      int
	records    [][]uint64 // by their generations
	begun      uint64
	publishers []*publisher
	readers    []*reader
	counts     counts
}

// counts tell what races came to.
type counts struct {
	done  int
	later int // of the done ones, such as tried again
	old   int // of the done ones, such as told a record that was not the newest one any more
	spent int
	edge  int // tries that failed where just one less than the places were published meanwhile
}

// add adds what another race came to.
func (c *counts) add(d counts) {
	c.done += d.done
	c.later += d.later
	c.old += d.old
	c.spent += d.spent
	c.edge += d.edge
}

// start is a race on a topic that has so many records already.
func start(t *testing.T, s plan.Spot, tries, earlier int) *race {
	t.Helper()
	b, e := bank.New(s.First + s.Words*s.Depth)
	if e != api.OK {
		t.Fatal(e)
	}
	r := &race{t: t, s: s, b: b, tries: tries, records: [][]uint64{make([]uint64, s.Words)}}
	p := &publisher{left: earlier}
	for p.op != nil || p.left > 0 {
		r.publish(p)
	}
	if len(r.records) != earlier+1 {
		t.Fatalf("%d records, not %d", len(r.records)-1, earlier)
	}
	return r
}

// run does all steps, in the order that is chosen.
func (r *race) run(choose func(n int) int) {
	r.t.Helper()
	for range 100000 {
		var ready []func()
		for _, p := range r.publishers {
			if p.op != nil || p.left > 0 {
				ready = append(ready, func() { r.publish(p) })
			}
		}
		for _, k := range r.readers {
			if k.op != nil || k.left > 0 {
				ready = append(ready, func() { r.read(k) })
			}
		}
		if len(ready) == 0 {
			return
		}
		ready[choose(len(ready))]()
	}
	r.t.Fatal("a race without an end")
}

// publish does a publisher's next step.
func (r *race) publish(p *publisher) {
	r.t.Helper()
	if p.op == nil {
		r.begun++
		p.left--
		p.words = record(r.s.Words, r.begun)
		o, e := write.New(r.s, p.words, 1)
		if e != api.OK {
			r.t.Fatal(e)
		}
		p.op = o
	}
	how := p.op.Step(r.b)
	if how == write.Busy {
		return
	}
	if how == write.Done {
		r.records = append(r.records, p.words)
	}
	p.op = nil
}

// read does a reader's next step, and looks at what it comes to.
func (r *race) read(k *reader) {
	r.t.Helper()
	if k.op == nil {
		*k = reader{left: k.left - 1, op: begin(r.t, r.s, r.tries)}
	}
	published, under := len(r.records)-1, len(r.records)-1
	if r.b.Peek(r.s.Seq)%2 == 1 {
		under++
	}
	how, of := read.Busy, r.s.Words+2
	switch k.op.Steps() % of {
	case 0:
		k.newest, k.at = published, k.op.Steps()+1
	case of - 1:
		how = r.last(k, published-k.newest, under-k.newest)
	}
	step(r.t, k.op, r.b, how, 1)
	if k.op.Steps() > read.Most(r.s, r.tries) {
		r.t.Fatalf("%d steps, of %d at most", k.op.Steps(), read.Most(r.s, r.tries))
	}
	if how == read.Busy {
		return
	}
	r.ended(k, how)
	k.op = nil
}

// last tells how a try's last step should come out, as so many records were published meanwhile, and so many begun.
func (r *race) last(k *reader, published, begun int) int {
	if begun < r.s.Depth {
		return read.Done
	}
	if published == r.s.Depth-1 {
		r.counts.edge++
	}
	k.missed++
	if k.missed == r.tries {
		return read.Spent
	}
	return read.Busy
}

// ended looks at what a reading tells at its end.
func (r *race) ended(k *reader, how int) {
	r.t.Helper()
	if how == read.Spent {
		r.counts.spent++
		tellsNothing(r.t, "spent", k.op, read.Most(r.s, r.tries))
		return
	}
	r.counts.done++
	if k.missed > 0 {
		r.counts.later++
	}
	if k.newest < len(r.records)-1 {
		r.counts.old++
	}
	tells(r.t, "in a race", k.op, r.records[k.newest], uint64(k.newest), k.at, (k.missed+1)*(r.s.Words+2))
}

// P9.4: readings beside publishings, in every order of their steps.
func TestEveryOrder(t *testing.T) {
	for _, c := range []struct {
		words, depth, tries, readers, readings, publishers, records, earlier int
		spent, later                                                         bool // whether some are spent, and whether some are done that tried again
	}{
		{1, 2, 1, 1, 1, 1, 2, 0, true, false}, {1, 2, 1, 1, 1, 1, 3, 1, true, false}, {2, 2, 1, 1, 1, 1, 3, 2, true, false}, {3, 2, 1, 1, 1, 1, 2, 1, true, false},
		{1, 2, 2, 1, 1, 1, 2, 1, false, true}, {1, 2, 2, 1, 1, 1, 4, 1, true, true}, {1, 3, 1, 1, 1, 1, 2, 2, false, false}, {1, 3, 1, 1, 1, 1, 4, 2, true, false},
		{2, 3, 1, 1, 1, 1, 3, 4, true, false}, {1, 4, 1, 1, 1, 1, 4, 5, true, false}, {1, 2, 1, 1, 2, 1, 2, 0, true, false}, {1, 2, 1, 2, 1, 1, 2, 1, true, false},
		{1, 2, 1, 1, 1, 2, 1, 1, true, false}, {1, 2, 1, 1, 1, 2, 1, 0, true, false},
	} {
		s := plan.Spot{Owners: 0, Seq: 2, First: 3, Words: c.words, Depth: c.depth}
		var sum counts
		runs := orders.Every(func(choose func(n int) int) {
			r := start(t, s, c.tries, c.earlier)
			for range c.readers {
				r.readers = append(r.readers, &reader{left: c.readings})
			}
			for range c.publishers {
				r.publishers = append(r.publishers, &publisher{left: c.records})
			}
			r.run(choose)
			if r.counts.done+r.counts.spent != c.readers*c.readings {
				t.Fatalf("%+v: %+v", c, r.counts)
			}
			sum.add(r.counts)
		})
		met := c.spent || c.later
		if runs < 100 || sum.old == 0 || (sum.spent > 0) != c.spent || (sum.later > 0) != c.later || (sum.edge > 0) != met {
			t.Errorf("%+v: %d orders, %+v", c, runs, sum)
		}
	}
}

// P9.4: many readers and publishers, of topics of all depths, in orders that are drawn.
func TestManyReaders(t *testing.T) {
	d := rand.New(rand.NewPCG(9, 4))
	var sum counts
	for range 400 {
		s := plan.Spot{Owners: 0, Seq: 2, First: 3, Words: 1 + d.IntN(12), Depth: 2 + d.IntN(1+d.IntN(15))}
		r := start(t, s, 1+d.IntN(1+d.IntN(16)), d.IntN(20))
		for range 1 + d.IntN(3) {
			r.readers = append(r.readers, &reader{left: 1 + d.IntN(8)})
		}
		for range 1 + d.IntN(4) {
			r.publishers = append(r.publishers, &publisher{left: d.IntN(60)})
		}
		run, last := 1+d.IntN(40), 0 // one that was chosen goes on for a while, of some length
		r.run(func(n int) int {
			if d.IntN(run) == 0 {
				last = d.IntN(n)
			}
			return min(last, n-1)
		})
		sum.add(r.counts)
	}
	if sum.done < 1000 || sum.later < 50 || sum.old < 200 || sum.spent < 50 || sum.edge < 20 {
		t.Errorf("%+v", sum)
	}
}

// P9.4: just as many records as a reading bears, of each depth, and the next one begun; then it is not whole any more.
func TestAsManyAsItBears(t *testing.T) {
	for depth := 2; depth <= 16; depth++ {
		for earlier := range 2*depth + 1 {
			for _, begun := range []bool{false, true} {
				r := start(t, spotOf(3, depth), 1, earlier)
				k, p := &reader{left: 1}, &publisher{left: depth}
				for range 2 {
					r.read(k)
				}
				for len(r.records) < earlier+depth {
					r.publish(p)
				}
				if begun {
					r.publish(p)
					r.publish(p)
				}
				for k.op != nil {
					r.read(k)
				}
				want := counts{done: 1, old: 1}
				if begun {
					want = counts{spent: 1, edge: 1}
				}
				if r.counts != want {
					t.Errorf("depth %d, %d earlier, begun %v: %+v", depth, earlier, begun, r.counts)
				}
			}
		}
	}
}

// P9.4: while nobody publishes a reading is Done at once, also while somebody holds the sequence, and does not go on: behind each of its steps.
func TestNobodyGoesOn(t *testing.T) {
	for _, s := range []plan.Spot{spotOf(1, 2), spotOf(2, 3), spotOf(64, 2), spotOf(1, 16)} {
		for _, tries := range []int{1, 16} {
			for earlier := range s.Depth + 2 {
				r := start(t, s, tries, earlier)
				p := &publisher{left: 1}
				for range s.Words + 3 {
					k := &reader{left: 1}
					for range s.Words + 2 {
						r.read(k)
					}
					if k.op != nil || k.missed != 0 {
						t.Fatalf("%+v, %d earlier: not done at once", s, earlier)
					}
					r.publish(p)
				}
			}
		}
	}
}

// P9.4: whoever reads twice, one behind the other, reads no elder record the second time, whatever comes in between.
func TestNoElderRecord(t *testing.T) {
	s := plan.Spot{Owners: 0, Seq: 2, First: 3, Words: 1, Depth: 3}
	runs := orders.Every(func(choose func(n int) int) {
		r := start(t, s, 1, 1)
		p, last := &publisher{left: 2}, uint64(0)
		for range 2 {
			o := begin(t, s, 1)
			for how := read.Busy; how == read.Busy; {
				if (p.op != nil || p.left > 0) && choose(2) == 1 {
					r.publish(p)
					continue
				}
				how = o.Step(r.b)
			}
			words, gen := o.Got()
			if gen < last || !slices.Equal(words, r.records[gen]) {
				t.Fatalf("generation %d, %v, behind generation %d", gen, words, last)
			}
			last = gen
		}
	})
	if runs < 100 {
		t.Errorf("%d orders", runs)
	}
}
