package queue_test

import (
	"math"
	"slices"
	"testing"

	"aileron/api"
	"aileron/queue"
)

// last is the greatest generation, and most how many may be queued at most.
const (
	last = uint64(math.MaxInt64)
	most = api.MaxDepth - 1
)

// edges are numbers on both sides of each bound of a generation and of a cursor's Next, and some between.
func edges() []uint64 {
	return []uint64{0, 1, 2, 3, 14, 15, 16, 17, 18, 100, 1<<32 - 1, 1 << 32, last - 17, last - 16, last - 15, last - 14, last - 2, last - 1, last, last + 1, last + 2, math.MaxUint64 - 1, math.MaxUint64}
}

// rooms are numbers on both sides of each bound of a cursor's Cap.
func rooms() []int {
	return []int{math.MinInt, -1 << 32, -16, -15, -1, 0, 1, 2, 3, 7, 14, 15, 16, 17, 1 << 32, 1<<32 + 1, math.MaxInt}
}

// right is the chapter's word: whether a cursor is right.
func right(c queue.Cursor) bool { return c.Cap >= 1 && c.Cap <= 15 && c.Next <= 1<<63 }

// isNone is the chapter's word: whether a number is no generation.
func isNone(gen uint64) bool { return gen >= 1<<63 }

// queued is the chapter's words, of a cursor that is right: the first one that is queued, and how many are.
func queued(c queue.Cursor, gen uint64) (uint64, int) {
	n := 0
	for n < c.Cap && gen+1-uint64(n) > c.Next {
		n++
	}
	return gen + 1 - uint64(n), n
}

// The chapter's examples.
func TestExamples(t *testing.T) {
	c, e := queue.New(4, 2)
	if c != (queue.Cursor{Next: 5, Cap: 2}) || e != api.OK {
		t.Fatal(c, e)
	}
	if c.Count(5) != 1 || c.Count(8) != 2 {
		t.Fatal(c.Count(5), c.Count(8))
	}
	if seen, e := c.See(8); seen != (queue.Cursor{Next: 7, Cap: 2, Lost: 2}) || e != api.OK {
		t.Fatal(seen, e)
	}
	if gen, after, e := c.Take(8); gen != 7 || after != (queue.Cursor{Next: 8, Cap: 2, Got: 1, Lost: 2}) || e != api.OK {
		t.Fatal(gen, after, e)
	}
	l := []queue.Sub{{Rank: 1, Cursor: c}, {Rank: 3, Cursor: c}, {Rank: 3, Cursor: c}}
	if k, e := queue.Pick(l, []uint64{5, 4, 5}); k != 2 || e != api.OK {
		t.Fatal(k, e)
	}
}

// P11.1: New of each generation and room, and of those that may not be.
func TestNew(t *testing.T) {
	for _, gen := range edges() {
		for _, room := range rooms() {
			want, err := queue.Cursor{Next: gen + 1, Cap: room}, api.OK
			if isNone(gen) || room < 1 || room > 15 {
				want, err = queue.Cursor{}, api.ErrRange
			}
			if c, e := queue.New(gen, room); c != want || e != err {
				t.Errorf("New(%d, %d): %v, %v", gen, room, c, e)
			}
		}
	}
}

// P11.1: a generation that is 0, the greatest, and the one behind it, which is none; room 1 and 15, and one beyond each.
func TestNewAtItsEdges(t *testing.T) {
	for _, x := range []struct {
		gen  uint64
		room int
		next uint64
		e    api.Errno
	}{
		{0, 1, 1, api.OK}, {0, 15, 1, api.OK}, {1<<63 - 1, 1, 1 << 63, api.OK}, {1<<63 - 1, 15, 1 << 63, api.OK},
		{1 << 63, 1, 0, api.ErrRange}, {math.MaxUint64, 1, 0, api.ErrRange}, {0, 0, 0, api.ErrRange}, {0, 16, 0, api.ErrRange}, {0, -1, 0, api.ErrRange}, {1 << 63, 16, 0, api.ErrRange},
	} {
		c, e := queue.New(x.gen, x.room)
		if e != x.e || c.Next != x.next || c.Got != 0 || c.Lost != 0 || e == api.OK && c.Cap != x.room || e != api.OK && c.Cap != 0 {
			t.Errorf("New(%d, %d): %v, %v", x.gen, x.room, c, e)
		}
	}
}

// looked holds See, Count and Take of a cursor against the chapter's words.
func looked(t *testing.T, c queue.Cursor, gen uint64) {
	t.Helper()
	var seen, after queue.Cursor
	var first uint64
	count, err, taken := 0, api.OK, api.OK
	switch {
	case !right(c):
		err, taken = api.ErrArg, api.ErrArg
	case isNone(gen):
		err, taken = api.ErrRange, api.ErrRange
	default:
		seen, taken = c, api.ErrNone
		first, count = queued(c, gen)
		if count > 0 {
			seen.Next, seen.Lost = first, c.Lost+(first-c.Next)
			after, taken = seen, api.OK
			after.Next, after.Got = first+1, c.Got+1
		} else {
			first = 0
		}
	}
	was := c
	if got, e := c.See(gen); got != seen || e != err {
		t.Fatalf("%v.See(%d): %v, %v, not %v, %v", c, gen, got, e, seen, err)
	}
	if n := c.Count(gen); n != count {
		t.Fatalf("%v.Count(%d): %d, not %d", c, gen, n, count)
	}
	if g, got, e := c.Take(gen); g != first || got != after || e != taken {
		t.Fatalf("%v.Take(%d): %d, %v, %v, not %d, %v, %v", c, gen, g, got, e, first, after, taken)
	}
	if c != was {
		t.Fatalf("%v was turned: %v", was, c)
	}
}

// P11.1: See, Count and Take of all cursors and newest generations at the edges, right and wrong.
func TestCursorsAtTheirEdges(t *testing.T) {
	for _, next := range edges() {
		for _, room := range rooms() {
			for _, n := range []uint64{0, 1, 7, math.MaxUint64 - 1, math.MaxUint64} {
				for _, gen := range edges() {
					looked(t, queue.Cursor{Next: next, Cap: room, Got: n, Lost: n}, gen)
					looked(t, queue.Cursor{Next: next, Cap: room, Got: 3, Lost: n}, gen)
					looked(t, queue.Cursor{Next: next, Cap: room, Got: n, Lost: 5}, gen)
				}
			}
		}
	}
}

// P11.1: newest generations all around each Next, below it and above, of each Cap.
func TestCursorsAroundTheNext(t *testing.T) {
	for room := 1; room <= most; room++ {
		for _, next := range []uint64{0, 1, 40, 1 << 32, last - 40, last, last + 1} {
			for gen := max(next, 40) - 40; gen <= min(next+40, last); gen++ {
				looked(t, queue.Cursor{Next: next, Cap: room, Got: 9, Lost: 4}, gen)
			}
		}
	}
}

// P11.1: none wait, one, Cap, one more than Cap, and all that there may be, in numbers.
func TestSeeCountTakeInNumbers(t *testing.T) {
	for i, x := range []struct {
		c     queue.Cursor
		gen   uint64
		count int
		seen  queue.Cursor
		first uint64
		after queue.Cursor
		e     api.Errno
	}{
		{queue.Cursor{Next: 9, Cap: 3, Got: 4, Lost: 2}, 8, 0, queue.Cursor{Next: 9, Cap: 3, Got: 4, Lost: 2}, 0, queue.Cursor{}, api.ErrNone},
		{queue.Cursor{Next: 9, Cap: 3, Got: 4, Lost: 2}, 0, 0, queue.Cursor{Next: 9, Cap: 3, Got: 4, Lost: 2}, 0, queue.Cursor{}, api.ErrNone},
		{queue.Cursor{Next: 9, Cap: 3, Got: 4, Lost: 2}, 9, 1, queue.Cursor{Next: 9, Cap: 3, Got: 4, Lost: 2}, 9, queue.Cursor{Next: 10, Cap: 3, Got: 5, Lost: 2}, api.OK},
		{queue.Cursor{Next: 9, Cap: 3, Got: 4, Lost: 2}, 11, 3, queue.Cursor{Next: 9, Cap: 3, Got: 4, Lost: 2}, 9, queue.Cursor{Next: 10, Cap: 3, Got: 5, Lost: 2}, api.OK},
		{queue.Cursor{Next: 9, Cap: 3, Got: 4, Lost: 2}, 12, 3, queue.Cursor{Next: 10, Cap: 3, Got: 4, Lost: 3}, 10, queue.Cursor{Next: 11, Cap: 3, Got: 5, Lost: 3}, api.OK},
		{queue.Cursor{Next: 0, Cap: 1}, 0, 1, queue.Cursor{Next: 0, Cap: 1}, 0, queue.Cursor{Next: 1, Cap: 1, Got: 1}, api.OK},
		{queue.Cursor{Next: 0, Cap: 1}, 1<<63 - 1, 1, queue.Cursor{Next: 1<<63 - 1, Cap: 1, Lost: 1<<63 - 1}, 1<<63 - 1, queue.Cursor{Next: 1 << 63, Cap: 1, Got: 1, Lost: 1<<63 - 1}, api.OK},
		{queue.Cursor{Next: 0, Cap: 15}, 1<<63 - 1, 15, queue.Cursor{Next: 1<<63 - 15, Cap: 15, Lost: 1<<63 - 15}, 1<<63 - 15, queue.Cursor{Next: 1<<63 - 14, Cap: 15, Got: 1, Lost: 1<<63 - 15}, api.OK},
		{queue.Cursor{Next: 1 << 63, Cap: 15}, 1<<63 - 1, 0, queue.Cursor{Next: 1 << 63, Cap: 15}, 0, queue.Cursor{}, api.ErrNone},
		{queue.Cursor{Next: 9, Cap: 1, Got: math.MaxUint64, Lost: math.MaxUint64}, 11, 1, queue.Cursor{Next: 11, Cap: 1, Got: math.MaxUint64, Lost: 1}, 11, queue.Cursor{Next: 12, Cap: 1, Got: 0, Lost: 1}, api.OK},
		{queue.Cursor{Next: 0, Cap: 1, Lost: 1<<63 + 1}, 1<<63 - 1, 1, queue.Cursor{Next: 1<<63 - 1, Cap: 1, Lost: 0}, 1<<63 - 1, queue.Cursor{Next: 1 << 63, Cap: 1, Got: 1, Lost: 0}, api.OK},
	} {
		seen, f := x.c.See(x.gen)
		first, after, e := x.c.Take(x.gen)
		if x.c.Count(x.gen) != x.count || seen != x.seen || f != api.OK || first != x.first || after != x.after || e != x.e {
			t.Errorf("%d: %d, %v, %v, %d, %v, %v", i, x.c.Count(x.gen), seen, f, first, after, e)
		}
	}
}

// P11.1: a cursor that is not right is told ahead of a generation that is none, and this one ahead of there being nothing.
func TestWhichErrorIsTold(t *testing.T) {
	for i, x := range []struct {
		c    queue.Cursor
		gen  uint64
		seen api.Errno
		took api.Errno
	}{
		{queue.Cursor{}, 0, api.ErrArg, api.ErrArg},
		{queue.Cursor{}, 1 << 63, api.ErrArg, api.ErrArg},
		{queue.Cursor{Cap: 16}, 1 << 63, api.ErrArg, api.ErrArg},
		{queue.Cursor{Cap: -1}, 5, api.ErrArg, api.ErrArg},
		{queue.Cursor{Next: 1<<63 + 1, Cap: 1}, 1 << 63, api.ErrArg, api.ErrArg},
		{queue.Cursor{Next: 1<<63 + 1, Cap: 1}, 1<<63 - 1, api.ErrArg, api.ErrArg},
		{queue.Cursor{Next: 1 << 63, Cap: 1}, 1 << 63, api.ErrRange, api.ErrRange},
		{queue.Cursor{Next: 0, Cap: 1}, 1 << 63, api.ErrRange, api.ErrRange},
		{queue.Cursor{Next: 1 << 63, Cap: 1}, 1<<63 - 1, api.OK, api.ErrNone},
		{queue.Cursor{Next: 6, Cap: 1}, 5, api.OK, api.ErrNone},
	} {
		seen, e := x.c.See(x.gen)
		if e != x.seen || e != api.OK && seen != (queue.Cursor{}) {
			t.Errorf("%d: See: %v, %v", i, seen, e)
		}
		first, after, e := x.c.Take(x.gen)
		if e != x.took || first != 0 || after != (queue.Cursor{}) {
			t.Errorf("%d: Take: %d, %v, %v", i, first, after, e)
		}
		if n := x.c.Count(x.gen); n != 0 {
			t.Errorf("%d: Count: %d", i, n)
		}
	}
}

// P11.1, R3: what is told of a cursor hangs on it alone, however often it is asked, and whatever others were asked.
func TestCursorsKeepNothing(t *testing.T) {
	c, _ := queue.New(4, 2)
	other, _ := queue.New(90, 7)
	for range 3 {
		c.See(30)
		c.Take(40)
		other.Take(95)
		if c != (queue.Cursor{Next: 5, Cap: 2}) || other != (queue.Cursor{Next: 91, Cap: 7}) {
			t.Fatal(c, other)
		}
		if first, after, e := c.Take(8); first != 7 || after != (queue.Cursor{Next: 8, Cap: 2, Got: 1, Lost: 2}) || e != api.OK {
			t.Fatal(first, after, e)
		}
	}
	d, _ := queue.New(4, 2)
	d.Next, d.Cap = 1000, 3
	if again, e := queue.New(4, 2); again != c || e != api.OK {
		t.Fatal(again, e)
	}
}

// P11.1: See of the same one, or of an elder one, turns nothing that was seen already; See of one behind another is See of the later one.
func TestSeenAgain(t *testing.T) {
	for room := 1; room <= most; room++ {
		for first := uint64(0); first < 40; first++ {
			for second := uint64(0); second < 40; second++ {
				c := queue.Cursor{Next: 3, Cap: room, Got: 1, Lost: 8}
				one, e := c.See(first)
				both, f := one.See(second)
				later, g := c.See(max(first, second))
				if both != later || e != api.OK || f != api.OK || g != api.OK {
					t.Fatalf("room %d, seen at %d and then at %d: %v, not %v", room, first, second, both, later)
				}
			}
		}
	}
}

// wordsPick is P11.2's words, by going through all ranks that there are.
func wordsPick(l []queue.Sub, gens []uint64) (int, api.Errno) {
	if len(l) != len(gens) {
		return 0, api.ErrArg
	}
	for _, s := range l {
		if !right(s.Cursor) {
			return 0, api.ErrArg
		}
	}
	if slices.ContainsFunc(gens, isNone) {
		return 0, api.ErrRange
	}
	ranks := []int{}
	for _, s := range l {
		ranks = append(ranks, s.Rank)
	}
	slices.Sort(ranks)
	slices.Reverse(ranks)
	for _, rank := range ranks {
		for k, s := range l {
			if _, n := queued(s.Cursor, gens[k]); n > 0 && s.Rank == rank {
				return k, api.OK
			}
		}
	}
	return -1, api.OK
}
