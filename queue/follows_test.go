package queue_test

import (
	"math/rand/v2"
	"slices"
	"testing"

	"aileron/api"
	"aileron/orders"
	"aileron/queue"
)

// places is a queue of so many places: each record is pushed as it is published, and the oldest one dropped to make room.
type places struct {
	room   int
	in     []uint64
	took   []uint64
	losses []uint64
}

func (p *places) push(gen uint64) {
	if len(p.in) == p.room {
		p.losses = append(p.losses, p.in[0])
		p.in = p.in[1:]
	}
	p.in = append(p.in, gen)
}

func (p *places) pop() {
	p.took = append(p.took, p.in[0])
	p.in = p.in[1:]
}

// beside is a cursor and a queue beside it, of the same topic.
type beside struct {
	from   uint64 // the newest one as New was called
	newest uint64
	c      queue.Cursor
	q      places
}

func newBeside(t *testing.T, from uint64, room int) *beside {
	c, e := queue.New(from, room)
	if e != api.OK {
		t.Fatal(from, room, e)
	}
	return &beside{from: from, newest: from, c: c, q: places{room: room}}
}

func (b *beside) publish() {
	b.newest++
	b.q.push(b.newest)
}

// see keeps the cursor that See tells.
func (b *beside) see(t *testing.T) {
	c, e := b.c.See(b.newest)
	if e != api.OK {
		t.Fatalf("See(%d) of %v: %v", b.newest, b.c, e)
	}
	if c.Lost != b.c.Lost && c.Count(b.newest) != c.Cap {
		t.Fatalf("See(%d) of %v: %v lost some while there was room", b.newest, b.c, c)
	}
	b.c = c
}

// take takes of both, and looks at whether it is the same one.
func (b *beside) take(t *testing.T) {
	gen, c, e := b.c.Take(b.newest)
	if len(b.q.in) == 0 {
		if gen != 0 || c != (queue.Cursor{}) || e != api.ErrNone {
			t.Fatalf("Take(%d) of %v: %d, %v, %v, not nothing", b.newest, b.c, gen, c, e)
		}
		return
	}
	if e != api.OK || gen != b.q.in[0] {
		t.Fatalf("Take(%d) of %v: %d, %v, not %d", b.newest, b.c, gen, e, b.q.in[0])
	}
	if n := len(b.q.took); n > 0 && gen <= b.q.took[n-1] {
		t.Fatalf("Take(%d) of %v: %d behind %d", b.newest, b.c, gen, b.q.took[n-1])
	}
	b.c = c
	b.q.pop()
}

// look holds what the cursor tells against the queue, without turning either.
func (b *beside) look(t *testing.T) {
	t.Helper()
	if n := b.c.Count(b.newest); n != len(b.q.in) {
		t.Fatalf("Count(%d) of %v: %d, not %d", b.newest, b.c, n, len(b.q.in))
	}
	var left []uint64
	c := b.c
	for range b.q.room {
		gen, next, e := c.Take(b.newest)
		if e != api.OK {
			break
		}
		left, c = append(left, gen), next
	}
	if !slices.Equal(left, b.q.in) {
		t.Fatalf("queued at %d, of %v: %v, not %v", b.newest, b.c, left, b.q.in)
	}
	seen, e := b.c.See(b.newest)
	if e != api.OK || seen.Got != uint64(len(b.q.took)) || seen.Lost != uint64(len(b.q.losses)) {
		t.Fatalf("See(%d) of %v: %v, %v, not %d taken, %d lost", b.newest, b.c, seen, e, len(b.q.took), len(b.q.losses))
	}
	if seen.Got+seen.Lost+uint64(b.c.Count(b.newest)) != b.newest-b.from {
		t.Fatalf("See(%d) of %v: %v and %d queued are not all since %d", b.newest, b.c, seen, b.c.Count(b.newest), b.from)
	}
	if len(b.q.in) > 0 && seen.Next != b.q.in[0] || len(b.q.in) == 0 && seen.Next != b.newest+1 {
		t.Fatalf("See(%d) of %v: %v, but queued are %v", b.newest, b.c, seen, b.q.in)
	}
}

// once looks at whether each one since New was taken, lost, or is queued, and just one of these: only the oldest are lost.
func (b *beside) once(t *testing.T) {
	t.Helper()
	all := slices.Concat(b.q.took, b.q.losses, b.q.in)
	slices.Sort(all)
	for k, gen := range all {
		if gen != b.from+1+uint64(k) {
			t.Fatalf("from %d to %d: taken %v, lost %v, queued %v", b.from, b.newest, b.q.took, b.q.losses, b.q.in)
		}
	}
	if uint64(len(all)) != b.newest-b.from || !slices.IsSorted(b.q.took) || !slices.IsSorted(b.q.losses) {
		t.Fatalf("from %d to %d: taken %v, lost %v, queued %v", b.from, b.newest, b.q.took, b.q.losses, b.q.in)
	}
}

// P11.3: every order of nine publishings, seeings and takings, of queues of one place to four.
func TestEveryOrderOfPublishingAndTaking(t *testing.T) {
	for room := 1; room <= 4; room++ {
		runs := orders.Every(func(choose func(n int) int) {
			b := newBeside(t, 6, room)
			for range 9 {
				switch choose(3) {
				case 0:
					b.publish()
				case 1:
					b.see(t)
				default:
					b.take(t)
				}
				b.look(t)
			}
			b.once(t)
		})
		if runs != 19683 {
			t.Fatalf("%d orders", runs)
		}
	}
}

// P11.3: drawn orders of many, of each room, from several generations on, up to the greatest.
func TestDrawnOrdersOfPublishingAndTaking(t *testing.T) {
	r := rand.New(rand.NewPCG(11, 3))
	for room := 1; room <= most; room++ {
		for _, from := range []uint64{0, 1, 7, 1<<32 - 50, 1 << 62, last - 400} {
			for range 5 {
				b := newBeside(t, from, room)
				publishings, seeings := 1+r.IntN(9), r.IntN(4)
				for range 400 {
					switch k := r.IntN(10 + seeings); {
					case k < publishings:
						b.publish()
					case k < 10:
						b.take(t)
					default:
						b.see(t)
					}
					b.look(t)
				}
				b.once(t)
			}
		}
	}
}

// P11.3: a cursor that was seen behind each publishing, one that was seen now and then, and one that was not seen for long take the same.
func TestWheneverItWasSeenLast(t *testing.T) {
	r := rand.New(rand.NewPCG(11, 4))
	for room := 1; room <= most; room++ {
		each, some, never := newBeside(t, 3, room), newBeside(t, 3, room), newBeside(t, 3, room)
		for round := range 200 {
			for range r.IntN(2*room + 3) {
				each.publish()
				some.publish()
				never.publish()
				each.see(t)
				if r.IntN(3) == 0 {
					some.see(t)
				}
			}
			for range r.IntN(room + 2) {
				each.take(t)
				some.take(t)
				never.take(t)
			}
			if round%2 == 0 {
				each.look(t)
				some.look(t)
				never.look(t)
			}
		}
		if !slices.Equal(each.q.took, some.q.took) || !slices.Equal(each.q.took, never.q.took) || len(each.q.took) == 0 {
			t.Fatalf("room %d: %d, %d and %d taken", room, len(each.q.took), len(some.q.took), len(never.q.took))
		}
		each.once(t)
		some.once(t)
		never.once(t)
	}
}

// P11.3: once the greatest generation is published, what is queued is taken to the end, and then there is nothing more.
func TestTheLastOnesAreTaken(t *testing.T) {
	for room := 1; room <= most; room++ {
		for some := range 20 {
			b := newBeside(t, last-uint64(some), room)
			for b.newest != last {
				b.publish()
			}
			for range room + 2 {
				b.look(t)
				b.take(t)
			}
			b.look(t)
			b.once(t)
			if len(b.q.took) != min(room, some) || b.c.Count(last) != 0 {
				t.Fatalf("room %d: %d of %d taken", room, len(b.q.took), some)
			}
		}
	}
}

// first is the queue that goes first, by its rank and then its place, of those that are not empty.
func first(l []*beside, ranks []int) int {
	at := -1
	for k := len(l) - 1; k >= 0; k-- {
		if len(l[k].q.in) > 0 && (at < 0 || ranks[k] >= ranks[at]) {
			at = k
		}
	}
	return at
}

// P11.2, P11.3: a row of cursors, of which Pick tells the one to take of, beside a row of queues.
func TestPickBesideQueues(t *testing.T) {
	r := rand.New(rand.NewPCG(11, 5))
	for range 60 {
		n := 1 + r.IntN(8)
		l, ranks := []*beside{}, []int{}
		for range n {
			l, ranks = append(l, newBeside(t, r.Uint64N(50), 1+r.IntN(most))), append(ranks, r.IntN(4)-1)
		}
		for range 200 {
			if k := r.IntN(n); r.IntN(2) == 0 {
				l[k].publish()
				continue
			}
			subs, gens := []queue.Sub{}, []uint64{}
			for k, b := range l {
				subs, gens = append(subs, queue.Sub{Topic: k, Rank: ranks[k], Cursor: b.c}), append(gens, b.newest)
			}
			k := first(l, ranks)
			picked(t, subs, gens, k, api.OK)
			if k >= 0 {
				l[k].take(t)
			}
		}
		for _, b := range l {
			b.look(t)
			b.once(t)
		}
	}
}
