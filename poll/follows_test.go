package poll_test

import (
	"math/rand/v2"
	"slices"
	"testing"

	"aileron/api"
	"aileron/bank"
	"aileron/orders"
	"aileron/plan"
	"aileron/poll"
	"aileron/queue"
	"aileron/write"
)

// places is a queue of so many places: each record is pushed as it is published, and the oldest one dropped to make room.
type places struct {
	room   int
	newest uint64 // the last one that was pushed
	in     []uint64
	took   uint64
	lost   uint64
}

// pushed lets all records up to one be pushed that were not yet.
func (q *places) pushed(gen uint64) {
	for q.newest < gen {
		if len(q.in) == q.room {
			q.in = q.in[1:]
			q.lost++
		}
		q.newest++
		q.in = append(q.in, q.newest)
	}
}

// pop takes the oldest one.
func (q *places) pop() uint64 {
	gen := q.in[0]
	q.in = q.in[1:]
	q.took++
	return gen
}

// cursor is that of a subscription that has taken, and lost, what the queue has.
func (q *places) cursor() queue.Cursor {
	next := q.newest + 1
	if len(q.in) > 0 {
		next = q.in[0]
	}
	return queue.Cursor{Next: next, Cap: q.room, Got: q.took, Lost: q.lost}
}

// publisher publishes records of a topic, one behind the other.
type publisher struct {
	topic int
	left  int // how many records it has still to begin
	words []uint64
	op    *write.Op
}

// poller polls its subscriptions, again and again.
type poller struct {
	left   int // how often it has still to begin
	subs   []queue.Sub
	queues []*places // of each subscription, beside it
	topics map[int]bool
	op     *poll.Op
	begun  []int   // as the poll began, which records were the newest ones, of each topic
	newest [][]int // the same behind each of its steps
}

// race is pollers of topics, and publishers, looked at from outside. A topic's number is not where it lies: the later ones have the lower numbers.
type race struct {
	t          *testing.T
	s          []plan.Spot
	b          *bank.Bank
	tries      int
	records    [][][]uint64 // of each topic, by their generations
	begun      uint64
	publishers []*publisher
	pollers    []*poller
	counts     counts
}

// counts tell what races came to.
type counts struct {
	done  int
	none  int // of the done ones, such as picked none
	later int // of the done ones, such as tried again
	old   int // of the done ones, such as a record came ahead of their end, behind their moment
	lost  int // of the done ones, such as took the oldest of a queue that had lost some
	held  int // of the done ones, such as ended while somebody held the sequence of one of their topics
	spent int
}

// add adds what another race came to.
func (c *counts) add(d counts) {
	c.done += d.done
	c.none += d.none
	c.later += d.later
	c.old += d.old
	c.lost += d.lost
	c.held += d.held
	c.spent += d.spent
}

// start is a race on topics that have some records already.
func start(t *testing.T, tries int, earlier func(topic int) int, shapes ...shape) *race {
	t.Helper()
	s := lay(shapes...)
	r := &race{t: t, s: s, b: full(t, s, 0), tries: tries}
	for topic, x := range s {
		var first []uint64
		for n := range x.Words {
			first = append(first, r.b.Peek(x.First+n))
		}
		r.records = append(r.records, [][]uint64{first})
		r.published(topic, earlier(topic))
	}
	return r
}

// asks is a subscription that a poller is to have: of what is published of a topic from now on.
type asks struct {
	topic int
	rank  int
	room  int
}

// subscribe is a poller with so many polls, of subscriptions that begin now.
func (r *race) subscribe(left int, l ...asks) *poller {
	r.t.Helper()
	p := &poller{left: left, topics: map[int]bool{}}
	for _, x := range l {
		c, e := queue.New(uint64(r.now()[x.topic]), x.room)
		if e != api.OK {
			r.t.Fatal(x, e)
		}
		p.subs = append(p.subs, queue.Sub{Topic: len(r.s) - x.topic, Rank: x.rank, Cursor: c})
		p.queues = append(p.queues, &places{room: x.room, newest: c.Next - 1})
		p.topics[x.topic] = true
	}
	r.pollers = append(r.pollers, p)
	return p
}

// topic is which topic a subscription is of.
func (r *race) topic(x queue.Sub) int { return len(r.s) - x.Topic }

// now are the newest records, of each topic.
func (r *race) now() []int {
	var l []int
	for _, x := range r.records {
		l = append(l, len(x)-1)
	}
	return l
}

// run does all steps, in the order that is chosen.
func (r *race) run(choose func(n int) int) {
	r.t.Helper()
	for range 1000000 {
		var ready []func()
		for _, p := range r.publishers {
			if p.op != nil || p.left > 0 {
				ready = append(ready, func() { r.publish(p) })
			}
		}
		for _, p := range r.pollers {
			if p.op != nil || p.left > 0 {
				ready = append(ready, func() { r.poll(p) })
			}
		}
		if len(ready) == 0 {
			return
		}
		ready[choose(len(ready))]()
	}
	r.t.Fatal("a race without an end")
}

// publish does a publisher's next step.
func (r *race) publish(p *publisher) {
	r.t.Helper()
	s := r.s[p.topic]
	if p.op == nil {
		r.begun++
		p.left--
		p.words = nil
		for n := range s.Words { // words that no other record has any of
			p.words = append(p.words, r.begun<<32+uint64(n))
		}
		o, e := write.New(s, p.words, 1)
		if e != api.OK {
			r.t.Fatal(e)
		}
		p.op = o
	}
	how := p.op.Step(r.b)
	if how == write.Busy {
		return
	}
	if how == write.Done {
		r.records[p.topic] = append(r.records[p.topic], p.words)
	}
	p.op = nil
}

// published publishes so many records of a topic, at once.
func (r *race) published(topic, records int) {
	r.t.Helper()
	for p := (&publisher{topic: topic, left: records}); p.op != nil || p.left > 0; {
		r.publish(p)
	}
}

// polled polls once, at once.
func (r *race) polled(p *poller) {
	r.t.Helper()
	for p.left = 1; p.op != nil || p.left > 0; {
		r.poll(p)
	}
}

// poll does a poller's next step, and looks at what it comes to.
func (r *race) poll(p *poller) {
	r.t.Helper()
	var s []plan.Spot
	for _, x := range p.subs {
		s = append(s, r.s[r.topic(x)])
	}
	if p.op == nil {
		p.left--
		p.op, p.begun, p.newest = fresh(r.t, p.subs, s, r.tries), r.now(), nil
	}
	words, touches := all(r.b), r.b.Touches()
	how := p.op.Step(r.b)
	p.newest = append(p.newest, r.now())
	if !slices.Equal(all(r.b), words) || r.b.Touches() != touches+1 || p.op.Steps() != len(p.newest) || len(p.newest) > poll.Most(s, r.tries) {
		r.t.Fatalf("step %d of %d at most: %d, with %d accesses, %d steps", len(p.newest), poll.Most(s, r.tries), how, r.b.Touches()-touches, p.op.Steps())
	}
	switch how {
	case poll.Busy:
		return
	case poll.Done:
		r.done(p)
	case poll.Spent:
		r.spent(p)
	default:
		r.t.Fatalf("it ended with %d", how)
	}
	p.op = nil
}

// ends are how many publishings of its topics ended since a poll began.
func (r *race) ends(p *poller) int {
	n := 0
	for topic, newest := range r.now() {
		if p.topics[topic] {
			n += newest - p.begun[topic]
		}
	}
	return n
}

// spent looks at a poll that is Spent.
func (r *race) spent(p *poller) {
	r.t.Helper()
	r.counts.spent++
	if is := tells(p.op, poll.Spent); !is.same(nothing(poll.Spent, len(p.newest))) || r.ends(p) < r.tries {
		r.t.Fatalf("spent, of %d tries, and %d publishings: %+v", r.tries, r.ends(p), is)
	}
}

// done looks at a poll that is Done: it tells what stood at the moment behind its step At.
func (r *race) done(p *poller) {
	r.t.Helper()
	is := tells(p.op, poll.Done)
	if is.at < 1 || is.at >= len(p.newest) || r.ends(p) == 0 && is.at != len(p.topics) {
		r.t.Fatalf("at %d of %d steps, with %d publishings", is.at, len(p.newest), r.ends(p))
	}
	moment := p.newest[is.at-1]
	want := told{how: poll.Done, k: -1, at: is.at, steps: len(p.newest)}
	for k, q := range p.queues {
		newest := uint64(moment[r.topic(p.subs[k])])
		q.pushed(newest)
		want.gens = append(want.gens, newest)
		if len(q.in) > 0 && (want.k < 0 || p.subs[k].Rank > p.subs[want.k].Rank) {
			want.k = k
		}
	}
	r.counted(p, is, moment, want.k)
	if want.k >= 0 {
		want.gen = p.queues[want.k].pop()
		want.words = r.records[r.topic(p.subs[want.k])][want.gen]
	}
	want.subs = slices.Clone(p.subs)
	for k, q := range p.queues {
		want.subs[k].Cursor = q.cursor()
	}
	if !is.same(want) {
		r.t.Fatalf("%+v, not %+v", is, want)
	}
	p.subs = is.subs
}

// counted counts a poll that is Done.
func (r *race) counted(p *poller, is told, moment []int, k int) {
	r.counts.done++
	if k < 0 {
		r.counts.none++
	} else if p.queues[k].lost > p.subs[k].Cursor.Lost {
		r.counts.lost++
	}
	if is.at > len(p.topics) {
		r.counts.later++
	}
	old, held := false, false
	for topic, newest := range r.now() {
		old = old || p.topics[topic] && newest > moment[topic]
		held = held || p.topics[topic] && r.b.Peek(r.s[topic].Seq)%2 == 1
	}
	if old {
		r.counts.old++
	}
	if held {
		r.counts.held++
	}
}

// P12.4: polls beside publishings, in every order of their steps.
func TestEveryOrder(t *testing.T) {
	type pub struct{ topic, records int }
	for i, c := range []struct {
		shapes     []shape
		tries      int
		polls      []int // of each poller how many
		subs       []asks
		earlier    int
		ahead      int // how many records are published of each topic behind the subscribing, ahead of the race
		publishers []pub
		least      counts // of which of them there is to be one at least
	}{
		{[]shape{{1, 2}}, 1, []int{1}, []asks{{0, 0, 1}}, 0, 0, []pub{{0, 2}}, counts{none: 1, spent: 1}},
		{[]shape{{1, 2}}, 2, []int{1}, []asks{{0, 0, 1}}, 1, 0, []pub{{0, 2}}, counts{none: 1, later: 1, lost: 1, spent: 1}},
		{[]shape{{1, 2}}, 1, []int{2}, []asks{{0, 0, 1}}, 3, 1, []pub{{0, 2}}, counts{none: 1, lost: 1, held: 1, spent: 1}},
		{[]shape{{3, 2}}, 1, []int{1}, []asks{{0, 0, 1}}, 2, 1, []pub{{0, 2}}, counts{held: 1, lost: 1, spent: 1}},
		{[]shape{{2, 3}}, 2, []int{1}, []asks{{0, 0, 2}}, 2, 2, []pub{{0, 2}}, counts{held: 1, lost: 1, later: 1, spent: 1}},
		{[]shape{{2, 3}}, 1, []int{1}, []asks{{0, 0, 1}, {0, 5, 2}}, 0, 2, []pub{{0, 1}, {0, 1}}, counts{held: 1, lost: 1, spent: 1}},
		{[]shape{{1, 2}}, 1, []int{1, 1}, []asks{{0, 0, 1}}, 0, 1, []pub{{0, 1}}, counts{held: 1, lost: 1, spent: 1}},
		{[]shape{{1, 2}, {1, 2}}, 1, []int{1}, []asks{{0, 0, 1}, {1, 0, 1}}, 0, 0, []pub{{0, 1}, {1, 1}}, counts{none: 1, held: 1, old: 1, spent: 1}},
		{[]shape{{1, 2}, {1, 3}}, 2, []int{1}, []asks{{0, 1, 1}, {1, 0, 2}}, 1, 1, []pub{{0, 1}}, counts{held: 1, lost: 1, later: 1}},
		{[]shape{{1, 2}, {1, 3}}, 2, []int{1}, []asks{{0, 0, 1}, {1, 1, 2}}, 1, 1, []pub{{0, 1}}, counts{held: 1, later: 1}},
		{[]shape{{2, 2}, {1, 2}}, 2, []int{1}, []asks{{0, 0, 1}, {1, 1, 1}}, 0, 1, []pub{{1, 1}}, counts{old: 1, held: 1, lost: 1, later: 1}},
		{[]shape{{1, 2}, {1, 2}, {1, 2}}, 1, []int{1}, []asks{{1, 0, 1}, {0, 3, 1}, {2, 3, 1}}, 0, 1, []pub{{0, 1}}, counts{held: 1, lost: 1, spent: 1}},
		{[]shape{{1, 2}, {1, 2}, {1, 2}}, 1, []int{1}, []asks{{1, 0, 1}, {0, 3, 1}, {1, 4, 1}}, 2, 0, []pub{{1, 2}}, counts{none: 1, held: 1, old: 1, spent: 1}},
		{[]shape{{1, 2}, {1, 2}}, 1, []int{2}, []asks{{1, 0, 1}}, 0, 1, []pub{{0, 2}}, counts{none: 1, done: 1}}, // of another topic
	} {
		var sum counts
		ended := 0
		for _, n := range c.polls {
			ended += n
		}
		runs := orders.Every(func(choose func(n int) int) {
			r := start(t, c.tries, func(int) int { return c.earlier }, c.shapes...)
			for _, n := range c.polls {
				r.subscribe(n, c.subs...)
			}
			for topic := range c.shapes {
				r.published(topic, c.ahead)
			}
			for _, p := range c.publishers {
				r.publishers = append(r.publishers, &publisher{topic: p.topic, left: p.records})
			}
			r.run(choose)
			if r.counts.done+r.counts.spent != ended {
				t.Fatalf("case %d: %+v", i, r.counts)
			}
			sum.add(r.counts)
		})
		short := sum.none < c.least.none || sum.later < c.least.later || sum.old < c.least.old || sum.lost < c.least.lost || sum.held < c.least.held
		if runs < 50 || sum.done == 0 || short || (sum.spent > 0) != (c.least.spent > 0) {
			t.Errorf("case %d: %d orders, %+v", i, runs, sum)
		}
	}
}

// P12.4: many pollers and publishers of many topics of all depths, in orders that are drawn.
func TestManyPollers(t *testing.T) {
	d := rand.New(rand.NewPCG(12, 4))
	var sum counts
	for range 500 {
		var shapes []shape
		for range 1 + d.IntN(6) {
			shapes = append(shapes, shape{1 + d.IntN(1+d.IntN(12)), 2 + d.IntN(1+d.IntN(15))})
		}
		r := start(t, 1+d.IntN(1+d.IntN(16)), func(int) int { return d.IntN(10) }, shapes...)
		for range 1 + d.IntN(3) {
			var l []asks
			for range 1 + d.IntN(8) {
				topic := d.IntN(len(shapes))
				l = append(l, asks{topic, d.IntN(4), 1 + d.IntN(shapes[topic].depth-1)})
			}
			r.subscribe(1+d.IntN(20), l...)
		}
		for range 1 + d.IntN(4) {
			r.publishers = append(r.publishers, &publisher{topic: d.IntN(len(shapes)), left: d.IntN(30)})
		}
		run, last := 1+d.IntN(60), 0 // one that was chosen goes on for a while, of some length
		r.run(func(n int) int {
			if d.IntN(run) == 0 {
				last = d.IntN(n)
			}
			return min(last, n-1)
		})
		sum.add(r.counts)
	}
	if sum.done < 1000 || sum.none < 300 || sum.later < 100 || sum.old < 20 || sum.lost < 100 || sum.held < 100 || sum.spent < 100 {
		t.Errorf("%+v", sum)
	}
}

// P12.4: a poll alone is Done with its first attempt, with as few tries as there may be; also while somebody holds sequences, and does not go on: behind each of the steps of publishings.
func TestNobodyGoesOn(t *testing.T) {
	for _, tries := range []int{1, 16} {
		for steps := range 7 {
			for topic := range 3 {
				shapes := []shape{{2, 3}, {3, 4}, {1, 2}}
				r := start(t, tries, func(topic int) int { return topic }, shapes...)
				p := r.subscribe(0, asks{0, 1, 2}, asks{1, 2, 3}, asks{2, 3, 1}, asks{1, 4, 1})
				for range 3 {
					for other := range shapes {
						r.published(other, 1)
					}
				}
				held := &publisher{topic: topic, left: 1}
				for range min(steps, shapes[topic].words+2) {
					r.publish(held)
				}
				for range 12 {
					r.polled(p)
				}
				want := counts{done: 12, none: 12 - 7, lost: r.counts.lost} // two, three and one of them are queued, and one more of the second topic
				if steps >= 2 {
					want.held = 12
				}
				if r.counts != want {
					t.Fatalf("topic %d, %d steps: %+v, not %+v", topic, steps, r.counts, want)
				}
			}
		}
	}
}

// P12.4: a record that is begun and given while a poll is under way, of each of its topics, spends an attempt, whether it is picked or not; one of another topic does not, however many there are.
func TestRecordsOfOtherTopics(t *testing.T) {
	for topic := range 4 {
		for _, records := range []int{1, 100} {
			r := start(t, 1, func(int) int { return 3 }, shape{2, 2}, shape{2, 2}, shape{2, 2}, shape{2, 2})
			k := r.subscribe(1, asks{2, 1, 1}, asks{0, 2, 1}, asks{1, 0, 1})
			for other := range 3 {
				r.published(other, 1)
			}
			for range 4 {
				r.poll(k)
			}
			r.published(topic, records)
			for k.op != nil {
				r.poll(k)
			}
			want := counts{spent: 1}
			if topic == 3 {
				want = counts{done: 1}
			}
			if r.counts != want {
				t.Errorf("topic %d: %+v", topic, r.counts)
			}
		}
	}
}

// P12.4: whoever polls again and again takes each record that was published, but those for which there was no room; once nobody publishes any more, what is queued is taken to the end, a record with each poll.
func TestTakenToTheEnd(t *testing.T) {
	d := rand.New(rand.NewPCG(12, 5))
	for range 100 {
		r := start(t, 16, func(topic int) int { return 2 * topic }, shape{2, 5}, shape{1, 3}, shape{3, 16})
		p := r.subscribe(40, asks{0, 1, 4}, asks{1, 1, 2}, asks{2, 2, 15}, asks{2, 0, 3})
		for topic := range 3 {
			r.publishers = append(r.publishers, &publisher{topic: topic, left: 3 + d.IntN(20)})
		}
		r.run(d.IntN)
		left := 0
		for k, q := range p.queues {
			q.pushed(uint64(r.now()[r.topic(p.subs[k])]))
			left += len(q.in)
		}
		for range left {
			r.polled(p)
		}
		for k, q := range p.queues {
			if len(q.in) > 0 || q.took+q.lost != uint64(r.now()[r.topic(p.subs[k])]-2*r.topic(p.subs[k])) {
				t.Fatalf("%+v", q)
			}
		}
		none := r.counts.none
		r.polled(p)
		if r.counts.none != none+1 {
			t.Fatalf("%+v", r.counts)
		}
	}
}
