package write_test

import (
	"math/rand/v2"
	"slices"
	"testing"

	"aileron/api"
	"aileron/bank"
	"aileron/orders"
	"aileron/plan"
	"aileron/write"
)

// task publishes records of one topic, one behind the other.
type task struct {
	left   int // how many records it has still to begin
	op     *write.Op
	record []uint64
	line   int    // 1: it looks next; 2: it takes next; 3: it holds the sequence
	saw    uint64 // the sequence that it looked at
	missed int    // how often somebody held the sequence, or was first
}

// race is several tasks that publish records of one topic, looked at from outside.
type race struct {
	t      *testing.T
	s      plan.Spot
	tries  int
	b      *bank.Bank
	tasks  []*task
	holder *task
	done   [][]uint64 // the records, in the order in which they were Done
	begun  int
	spent  int
	choose func(n int) int
}

// start is a race of so many tasks with so many records each, from a topic that has so many records already.
func start(t *testing.T, s plan.Spot, tries, tasks, records, earlier int, choose func(n int) int) *race {
	t.Helper()
	b, e := bank.New(s.First + s.Words*s.Depth + 2)
	if e != api.OK {
		t.Fatal(e)
	}
	r := &race{t: t, s: s, tries: tries, b: b, choose: choose}
	one := &task{left: earlier}
	r.tasks = []*task{one}
	r.run()
	if len(r.done) != earlier {
		t.Fatalf("alone %d records were published, not %d", len(r.done), earlier)
	}
	r.tasks = nil
	for range tasks {
		r.tasks = append(r.tasks, &task{left: records})
	}
	return r
}

// run does all steps of all tasks, in the order that is chosen.
func (r *race) run() {
	r.t.Helper()
	for range 100000 {
		var ready []*task
		for _, k := range r.tasks {
			if k.op != nil || k.left > 0 {
				ready = append(ready, k)
			}
		}
		if len(ready) == 0 {
			return
		}
		r.step(ready[r.choose(len(ready))])
	}
	r.t.Fatal("a race without an end")
}

// step does the next step of a task, and looks at all that it turned.
func (r *race) step(k *task) {
	r.t.Helper()
	if k.op == nil {
		r.begun++
		k.left--
		*k = task{left: k.left, line: 1, record: record(r.s.Words, uint64(r.begun))}
		k.op = begin(r.t, r.s, k.record, r.tries)
	}
	before, touches := all(r.b), r.b.Touches()
	how := k.op.Step(r.b)
	if r.b.Touches() != touches+1 {
		r.t.Fatalf("%d accesses in one step", r.b.Touches()-touches)
	}
	r.follow(k, before[r.s.Seq])
	r.turned(k, before, all(r.b))
	r.ended(k, how)
	r.whole()
}

// follow tells what a step came to by the sequence ahead of it.
func (r *race) follow(k *task, sequence uint64) {
	switch {
	case k.line == 1 && sequence%2 == 1:
		k.missed++
	case k.line == 1:
		k.line, k.saw = 2, sequence
	case k.line == 2 && sequence != k.saw:
		k.line, k.missed = 1, k.missed+1
	case k.line == 2:
		k.line = 3
	}
}

// turned looks at what a step turned: the sequence by who takes or gives it, places by who holds it, nothing else.
func (r *race) turned(k *task, before, after []uint64) {
	r.t.Helper()
	for at := range after {
		if before[at] == after[at] {
			continue
		}
		places := at >= r.s.First && at < r.s.First+r.s.Words*r.s.Depth
		switch {
		case places && r.holder != k:
			r.t.Fatalf("word %d was written by one that does not hold the sequence", at)
		case at == r.s.Seq && after[at] != before[at]+1:
			r.t.Fatalf("the sequence went from %d to %d", before[at], after[at])
		case at == r.s.Seq && before[at]%2 == 0:
			r.holder = k
		case at == r.s.Seq && r.holder != k:
			r.t.Fatal("the sequence was given by one that does not hold it")
		case at == r.s.Seq:
			r.holder = nil
		case !places:
			r.t.Fatalf("word %d, which is not the topic's to publish, was written", at)
		}
	}
}

// ended looks at how a publishing stands behind a step.
func (r *race) ended(k *task, how int) {
	r.t.Helper()
	if k.op.Steps() > write.Most(r.s, r.tries) {
		r.t.Fatalf("%d steps, of %d at most", k.op.Steps(), write.Most(r.s, r.tries))
	}
	if (how == write.Spent) != (k.missed == r.tries) {
		r.t.Fatalf("it stands at %d, and missed %d of %d tries", how, k.missed, r.tries)
	}
	switch how {
	case write.Busy:
		if k.op.Gen() != 0 {
			r.t.Fatalf("generation %d ahead of the end", k.op.Gen())
		}
		return
	case write.Done:
		r.done = append(r.done, k.record)
		if sequence := r.b.Peek(r.s.Seq); k.op.Gen() != uint64(len(r.done)) || sequence != 2*uint64(len(r.done)) {
			r.t.Fatalf("record %d is generation %d, the sequence is %d", len(r.done), k.op.Gen(), sequence)
		}
	case write.Spent:
		r.spent++
		if k.op.Gen() != 0 || r.holder == k {
			r.t.Fatalf("spent, generation %d", k.op.Gen())
		}
	default:
		r.t.Fatalf("it stands at %d", how)
	}
	k.op = nil
}

// whole looks whether each record stands in its place, till one Depth further is being published.
func (r *race) whole() {
	r.t.Helper()
	sequence := int(r.b.Peek(r.s.Seq))
	last := sequence/2 + sequence%2
	for i, words := range r.done {
		gen := i + 1
		if gen+r.s.Depth <= last {
			continue
		}
		place := r.s.First + r.s.Words*(gen%r.s.Depth)
		if got := all(r.b)[place : place+r.s.Words]; !slices.Equal(got, words) {
			r.t.Fatalf("generation %d of %d is %v, not %v", gen, last, got, words)
		}
	}
}

// P8.3: several publishings, in every order of their steps.
func TestEveryOrder(t *testing.T) {
	for _, c := range []struct{ words, depth, tries, tasks, records, earlier int }{
		{1, 2, 1, 2, 1, 0}, {1, 2, 2, 2, 1, 1}, {1, 3, 3, 2, 1, 2}, {2, 2, 2, 2, 1, 3}, {3, 2, 1, 2, 1, 0}, {1, 2, 1, 3, 1, 1}, {1, 2, 1, 2, 2, 1}, {2, 3, 1, 2, 2, 2},
		{2, 2, 4, 2, 1, 5}, {1, 2, 2, 3, 1, 2}, {1, 2, 1, 4, 1, 0}, {1, 2, 2, 2, 2, 3}, {1, 2, 1, 2, 3, 0},
	} {
		s := plan.Spot{Owners: 1, Seq: 2, First: 4, Words: c.words, Depth: c.depth}
		least, most, spent := 1000, 0, 0
		runs := orders.Every(func(choose func(n int) int) {
			quiet := true
			r := start(t, s, c.tries, c.tasks, c.records, c.earlier, func(n int) int {
				if quiet {
					return 0
				}
				return choose(n)
			})
			quiet = false
			r.run()
			published := len(r.done) - c.earlier
			least, most, spent = min(least, published), max(most, published), max(spent, r.spent)
			if published+r.spent != c.tasks*c.records {
				t.Fatalf("%+v: %d done, %d spent", c, published, r.spent)
			}
		})
		if runs < 10 || least < 1 || most != c.tasks*c.records || spent == 0 {
			t.Errorf("%+v: %d orders, from %d to %d done, %d spent", c, runs, least, most, spent)
		}
	}
}

// P8.3: many tasks with more records than places, in orders that are drawn.
func TestManyRecords(t *testing.T) {
	d := rand.New(rand.NewPCG(8, 3))
	done, spent := 0, 0
	for range 300 {
		s := plan.Spot{Owners: 1, Seq: 2, First: 4, Words: 1 + d.IntN(6), Depth: 2 + d.IntN(15)}
		run := 1 + d.IntN(8) // one that was chosen goes on for a while, of some length
		last := 0
		r := start(t, s, 1+d.IntN(16), 2+d.IntN(7), 3+d.IntN(10), d.IntN(20), func(n int) int {
			if d.IntN(run) == 0 {
				last = d.IntN(n)
			}
			return min(last, n-1)
		})
		r.run()
		done, spent = done+len(r.done), spent+r.spent
	}
	if done < 1000 || spent < 1000 {
		t.Errorf("only %d done and %d spent", done, spent)
	}
}

// P8.3: alone a publishing takes Words and 3, with however many tries; records go round all places.
func TestAlone(t *testing.T) {
	for _, words := range []int{1, 2, 7, 63, 64} {
		for _, depth := range []int{2, 3, 15, 16} {
			s := spotOf(words, depth)
			b := roomFor(t, s, 0)
			var records [][]uint64
			for gen := uint64(1); gen <= 3*uint64(depth)+1; gen++ {
				records = append(records, record(words, gen))
				o := begin(t, s, records[gen-1], 1+int(gen)%16)
				if how := finish(t, o, b); how != write.Done {
					t.Fatalf("%+v, generation %d: %d", s, gen, how)
				}
				stands(t, "alone", o, gen, words+3)
				for g := max(1, int(gen)-depth+1); g <= int(gen); g++ {
					place := s.First + words*(g%depth)
					if got := all(b)[place : place+words]; !slices.Equal(got, records[g-1]) {
						t.Fatalf("%+v: generation %d of %d is %v", s, g, gen, got)
					}
				}
			}
		}
	}
}

// P8.3: one that holds the sequence, and does not go on, spends all others, and can end all the same.
func TestOneThatHolds(t *testing.T) {
	for tries := 1; tries <= 16; tries++ {
		for far := 2; far <= 4; far++ {
			s := spotOf(2, 2)
			b := roomFor(t, s, 0)
			o := begin(t, s, record(2, 1), tries)
			for range far {
				o.Step(b)
			}
			for other := range uint64(3) {
				want := all(b)
				p := begin(t, s, record(2, 2+other), tries)
				if how := finish(t, p, b); how != write.Spent || p.Steps() != tries {
					t.Fatalf("%d tries: %d, %d steps", tries, how, p.Steps())
				}
				holds(t, "held by another one", b, want)
			}
			if how := finish(t, o, b); how != write.Done || !slices.Equal(all(b)[4:], record(2, 1)) {
				t.Fatalf("%d tries: %d, %v", tries, how, all(b))
			}
			stands(t, "the one that held", o, 1, 5)
			p := begin(t, s, record(2, 9), tries)
			if how := finish(t, p, b); how != write.Done {
				t.Fatalf("behind it: %d", how)
			}
			stands(t, "behind it", p, 2, 5)
		}
	}
}
