package poll_test

import (
	"iter"
	"slices"
	"testing"

	"aileron/bank"
	"aileron/plan"
	"aileron/poll"
	"aileron/queue"
)

// told is how a poll stands, and what it tells.
type told struct {
	how   int
	k     int
	gen   uint64
	words []uint64
	subs  []queue.Sub
	gens  []uint64
	at    int
	steps int
}

// same tells whether two polls stand and tell the same; a list without elements may be nil or not.
func (x told) same(y told) bool {
	return x.how == y.how && x.k == y.k && x.gen == y.gen && slices.Equal(x.words, y.words) && slices.Equal(x.subs, y.subs) && slices.Equal(x.gens, y.gens) && x.at == y.at && x.steps == y.steps
}

// nothing is what a poll tells that is not Done.
func nothing(how, steps int) told { return told{how: how, k: -1, steps: steps} }

// queued are the generations that a cursor has queued, the oldest first: the last ones, as many as its Cap, of those from Next on.
func queued(c queue.Cursor, newest uint64) []uint64 {
	var l []uint64
	for n := range uint64(c.Cap) {
		if n > newest || newest-n < c.Next {
			break
		}
		l = append(l, newest-n)
	}
	slices.Reverse(l)
	return l
}

// goesFirst is which of some subscriptions goes first, as generations of their topics are found; -1: none has something queued.
func goesFirst(l []queue.Sub, found map[int]uint64) int {
	at := -1
	for k := len(l) - 1; k >= 0; k-- {
		if len(queued(l[k].Cursor, found[l[k].Topic])) > 0 && (at < 0 || l[k].Rank >= l[at].Rank) {
			at = k
		}
	}
	return at
}

// behind are subscriptions once generations were found, and the first record of the k-th one was taken.
func behind(l []queue.Sub, found map[int]uint64, k int) []queue.Sub {
	subs := slices.Clone(l)
	for i := range subs {
		c := &subs[i].Cursor
		if q := queued(*c, found[subs[i].Topic]); len(q) > 0 {
			c.Lost += q[0] - c.Next
			c.Next = q[0]
		}
	}
	if k >= 0 {
		subs[k].Cursor.Next++
		subs[k].Cursor.Got++
	}
	return subs
}

// byWords is what a poll comes to by the chapter's words; load is asked for each word that is loaded, and refuses or not.
func byWords(l []queue.Sub, s []plan.Spot, tries int, load func(at int) (uint64, bool)) told {
	var topics []int
	spots := map[int]plan.Spot{}
	for k, x := range l {
		topics, spots[x.Topic] = append(topics, x.Topic), s[k]
	}
	slices.Sort(topics)
	topics = slices.Compact(topics)
	steps := 0
attempts:
	for range tries {
		found, at := map[int]uint64{}, steps+len(topics)
		for _, topic := range topics {
			x, ok := load(spots[topic].Seq)
			if !ok {
				return nothing(poll.Broke, steps)
			}
			steps, found[topic] = steps+1, x/2
		}
		k, gen, words := goesFirst(l, found), uint64(0), []uint64(nil)
		if k >= 0 {
			gen = queued(l[k].Cursor, found[l[k].Topic])[0]
			for n := range s[k].Words {
				x, ok := load(place(s[k], gen) + n)
				if !ok {
					return nothing(poll.Broke, steps)
				}
				steps, words = steps+1, append(words, x)
			}
		}
		for _, topic := range topics {
			x, ok := load(spots[topic].Seq)
			if !ok {
				return nothing(poll.Broke, steps)
			}
			steps++
			if x/2 != found[topic] {
				continue attempts
			}
		}
		var gens []uint64
		for _, x := range l {
			gens = append(gens, found[x.Topic])
		}
		return told{poll.Done, k, gen, words, behind(l, found, k), gens, at, steps}
	}
	return nothing(poll.Spent, steps)
}

// walk goes through what a poll does by the chapter's words, a step at a time.
type walk struct {
	next func() (int, bool)
	stop func()
	word int  // the one that is loaded next
	goes bool // whether there is one
	x    uint64
	ok   bool
	now  told
}

// set is a walk that has not begun.
func set(l []queue.Sub, s []plan.Spot, tries int) *walk {
	w := &walk{now: nothing(poll.Busy, 0)}
	var end told
	next, stop := iter.Pull(func(yield func(int) bool) {
		end = byWords(l, s, tries, func(at int) (uint64, bool) {
			if !yield(at) {
				return 0, false
			}
			return w.x, w.ok
		})
	})
	w.stop = stop
	w.next = func() (int, bool) {
		at, goes := next()
		if !goes {
			w.now = end
		}
		return at, goes
	}
	w.word, w.goes = w.next()
	return w
}

// step does what is next, in a bank; whether it was an access.
func (w *walk) step(b *bank.Bank) bool {
	if !w.goes {
		return false
	}
	w.x, w.ok = b.Peek(w.word), w.word >= 0 && w.word < b.Len()
	if w.ok {
		w.now.steps++
	}
	w.word, w.goes = w.next()
	return w.ok
}

// pair is a poll, and what it does by the chapter's words beside it.
type pair struct {
	o *poll.Op
	w *walk
}

// begin is a pair of a poll that has not begun.
func begin(t *testing.T, l []queue.Sub, s []plan.Spot, tries int) *pair {
	t.Helper()
	p := &pair{fresh(t, l, s, tries), set(slices.Clone(l), slices.Clone(s), tries)}
	t.Cleanup(p.w.stop)
	p.look(t, p.w.now.how)
	return p
}

// look holds what the poll tells against the words.
func (p *pair) look(t *testing.T, how int) {
	t.Helper()
	if is := tells(p.o, how); !is.same(p.w.now) {
		t.Fatalf("it tells %+v, not %+v", is, p.w.now)
	}
}

// step does one step, and holds all that it does against the words: one access where there is one, and no word of the bank turned.
func (p *pair) step(t *testing.T, b *bank.Bank) int {
	t.Helper()
	touches, words := b.Touches(), all(b)
	if p.w.step(b) {
		touches++
	}
	how := p.o.Step(b)
	p.look(t, how)
	if b.Touches() != touches {
		t.Fatalf("step %d: %d accesses, not %d", p.o.Steps(), b.Touches(), touches)
	}
	if !slices.Equal(all(b), words) {
		t.Fatalf("step %d: the words are %v, not %v", p.o.Steps(), all(b), words)
	}
	return how
}

// steps does so many steps, that come to no end.
func (p *pair) steps(t *testing.T, b *bank.Bank, n int) {
	t.Helper()
	for range n {
		if how := p.step(t, b); how != poll.Busy {
			t.Fatalf("step %d: it ended with %d", p.o.Steps(), how)
		}
	}
}

// finish does the steps that are left.
func (p *pair) finish(t *testing.T, b *bank.Bank) told {
	t.Helper()
	for range 10000 {
		if how := p.step(t, b); how != poll.Busy {
			return tells(p.o, how)
		}
	}
	t.Fatal("a poll without an end")
	return told{}
}

// tells is what a poll tells, as it stands so.
func tells(o *poll.Op, how int) told {
	k, gen, words := o.Got()
	return told{how, k, gen, words, o.Subs(), o.Gens(), o.At(), o.Steps()}
}
