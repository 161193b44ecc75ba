package bank_test

import (
	"runtime"
	"slices"
	"sync"
	"testing"

	"aileron/bank"
)

// P1.4 speaks of several who share a bank. Each is tried twice: in every order that the accesses of a few may come in, and by goroutines.

// actor is one of several: its next access, and itself behind it; ended, it does nothing more.
type actor struct {
	me    uint64
	at    int // which of its accesses is next
	tries int
	seen  uint64
	got   []uint64
	ended bool
}

// everyOrder goes through all orders of the actors' accesses, each on a clone, and tells how many there are.
func everyOrder(b *bank.Bank, actors []actor, step func(*bank.Bank, actor) actor, look func(*bank.Bank, []actor)) int {
	orders := 0
	for i := range actors {
		if actors[i].ended {
			continue
		}
		c, next := b.Clone(), slices.Clone(actors)
		next[i].got = slices.Clone(next[i].got)
		next[i] = step(c, next[i])
		look(c, next)
		orders += everyOrder(c, next, step, look)
	}
	return max(orders, 1)
}

func allEnded(actors []actor) bool {
	return !slices.ContainsFunc(actors, func(a actor) bool { return !a.ended })
}

// together lets so many goroutines go on at once, numbered from 1 on, to their end.
func together(n int, do func(me uint64)) {
	var all sync.WaitGroup
	for i := range n {
		all.Go(func() { do(uint64(i) + 1) })
	}
	all.Wait()
}

// distinct tells whether tickets are first, the one behind it, and so on, each of them once.
func distinct(first uint64, tickets []uint64) bool {
	seen := map[uint64]bool{}
	for _, x := range tickets {
		if seen[x] || x-first >= uint64(len(tickets)) {
			return false
		}
		seen[x] = true
	}
	return true
}

func TestTicketsInEveryOrder(t *testing.T) {
	for _, first := range []uint64{0, greatest - 2} {
		take := func(b *bank.Bank, a actor) actor {
			x, _ := b.Add(0, 1)
			a.got = append(a.got, x)
			a.ended = len(a.got) == 2
			return a
		}
		look := func(b *bank.Bank, actors []actor) {
			var all []uint64
			for _, a := range actors {
				all = append(all, a.got...)
			}
			if !distinct(first, all) || b.Peek(0) != first+uint64(len(all)) {
				t.Fatalf("tickets %v, and the next is %d", all, b.Peek(0))
			}
		}
		if n := everyOrder(with(t, first), make([]actor, 3), take, look); n != 90 {
			t.Errorf("%d orders", n)
		}
	}
}

func TestTicketsOfGoroutines(t *testing.T) {
	const tasks, each = 8, 2000
	first := uint64(greatest - 999)
	b := with(t, first)
	var got [tasks][]uint64
	together(tasks, func(me uint64) {
		for range each {
			x, _ := b.Add(0, 1)
			got[me-1] = append(got[me-1], x)
		}
	})
	var all []uint64
	for _, g := range got {
		all = append(all, g...)
	}
	if len(all) != tasks*each || !distinct(first, all) {
		t.Error("a ticket was taken twice, or never")
	}
	if b.Touches() != 1+tasks*each {
		t.Errorf("%d accesses", b.Touches())
	}
}

func TestHoldInEveryOrder(t *testing.T) {
	const load, release = 1, 2
	step := func(b *bank.Bank, a actor) actor {
		switch a.at {
		case 0:
			is, _ := b.CAS(0, 0, a.me)
			a.tries++
			if is {
				a.at = load
			}
			a.ended = !is && a.tries == 3
		case load:
			a.seen, _ = b.Load(0)
			a.at = release
		case release:
			b.Store(0, 0)
			a.ended = true
		}
		return a
	}
	look := func(b *bank.Bank, actors []actor) {
		holder := uint64(0)
		for _, a := range actors {
			if a.at == release && a.seen != a.me {
				t.Fatalf("%d held the word, and saw %d", a.me, a.seen)
			}
			if a.at == 0 || a.ended {
				continue
			}
			if holder != 0 {
				t.Fatalf("%d and %d hold the word", holder, a.me)
			}
			holder = a.me
		}
		if b.Peek(0) != holder {
			t.Fatalf("%d holds the word, and it is %d", holder, b.Peek(0))
		}
	}
	everyOrder(fresh(t, 1), []actor{{me: 1}, {me: 2}, {me: 3}}, step, look)
}

func TestHoldOfGoroutines(t *testing.T) {
	const tasks, tries = 6, 5000
	b := fresh(t, 2)
	var held [tasks]uint64
	together(tasks, func(me uint64) {
		for range tries {
			if is, _ := b.CAS(0, 0, me); !is {
				runtime.Gosched()
				continue
			}
			held[me-1]++
			// Two accesses where one would do: whoever is not alone loses a count.
			x, _ := b.Load(1)
			runtime.Gosched()
			b.Store(1, x+1)
			if x, _ := b.Load(0); x != me {
				t.Errorf("%d held the word, and saw %d", me, x)
			}
			b.Store(0, 0)
		}
	})
	sum := uint64(0)
	for _, n := range held {
		sum += n
	}
	if sum == 0 || b.Peek(0) != 0 || b.Peek(1) != sum {
		t.Errorf("held %d times, and the words are %v", sum, words(b))
	}
}

func TestRaiseInEveryOrder(t *testing.T) {
	step := func(b *bank.Bank, a actor) actor {
		if a.at == 0 {
			a.seen, _ = b.Load(0)
			a.at, a.ended = 1, a.seen >= a.me
			return a
		}
		a.ended, _ = b.CAS(0, a.seen, a.me)
		a.at, a.tries = 0, a.tries+1
		if a.tries > 3 { // the two others raise it once each
			t.Fatalf("%d has tried %d times", a.me, a.tries)
		}
		return a
	}
	for _, first := range []uint64{0, 5, greatest} {
		want := max(first, 9)
		look := func(b *bank.Bank, actors []actor) {
			x := b.Peek(0)
			if x < first || x > want || allEnded(actors) && x != want {
				t.Fatalf("raised from %d to %d", first, x)
			}
			for _, a := range actors {
				if a.ended && x < a.me {
					t.Fatalf("%d ended, and the word is %d", a.me, x)
				}
			}
		}
		everyOrder(with(t, first), []actor{{me: 4}, {me: 9}, {me: 7}}, step, look)
	}
}

func TestRaiseOfGoroutines(t *testing.T) {
	const tasks, each = 8, 1000
	b := fresh(t, 1)
	together(tasks, func(me uint64) {
		for i := range uint64(each) {
			to := (i*7919%each)*tasks + me
			for range tasks * each { // others raise it less often than that
				x, _ := b.Load(0)
				if x >= to {
					break
				}
				b.CAS(0, x, to)
			}
			if x, _ := b.Load(0); x < to {
				t.Errorf("raised to %d, and it is %d", to, x)
			}
		}
	})
	if x := b.Peek(0); x != tasks*each {
		t.Errorf("raised to %d", x)
	}
}
