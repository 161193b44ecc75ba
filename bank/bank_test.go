package bank_test

import (
	"math"
	"slices"
	"testing"

	"aileron/api"
	"aileron/bank"
)

const greatest = math.MaxUint64

// fresh is a bank that a test goes on with.
func fresh(t *testing.T, n int) *bank.Bank {
	t.Helper()
	b, e := bank.New(n)
	if e != api.OK || b == nil {
		t.Fatalf("New(%d): %v, %v", n, b, e)
	}
	return b
}

// with is a bank of just these words.
func with(t *testing.T, words ...uint64) *bank.Bank {
	t.Helper()
	b := fresh(t, len(words))
	for at, x := range words {
		if e := b.Store(at, x); e != api.OK {
			t.Fatalf("Store(%d, %d): %v", at, x, e)
		}
	}
	return b
}

// words are all of a bank's words, without an access.
func words(b *bank.Bank) []uint64 {
	var all []uint64
	for at := range b.Len() {
		all = append(all, b.Peek(at))
	}
	return all
}

// stands holds a bank against what it should be.
func stands(t *testing.T, what string, b *bank.Bank, touches int, want ...uint64) {
	t.Helper()
	if got := words(b); !slices.Equal(got, want) {
		t.Errorf("%s: the words are %v, not %v", what, got, want)
	}
	if got := b.Touches(); got != touches {
		t.Errorf("%s: %d accesses, not %d", what, got, touches)
	}
}

// P1.1
func TestNewRefusesSizes(t *testing.T) {
	for _, n := range []int{0, -1, -1048576, 1048577, 1 << 40, math.MinInt, math.MaxInt} {
		if b, e := bank.New(n); b != nil || e != api.ErrRange {
			t.Errorf("New(%d): %v, %v", n, b, e)
		}
	}
}

// P1.1
func TestNewIsNoughts(t *testing.T) {
	for _, n := range []int{1, 2, 3, 1000, 1048575, 1048576} {
		b := fresh(t, n)
		if b.Len() != n || b.Touches() != 0 {
			t.Errorf("New(%d): %d words, %d accesses", n, b.Len(), b.Touches())
		}
		for at := range n {
			if x := b.Peek(at); x != 0 {
				t.Fatalf("New(%d): word %d is %d", n, at, x)
			}
		}
		if e := b.Store(n-1, 8); e != api.OK || b.Peek(n-1) != 8 {
			t.Errorf("New(%d): the last word is %d, %v", n, b.Peek(n-1), e)
		}
		if e := b.Store(n, 8); e != api.ErrRange {
			t.Errorf("New(%d): behind the last word: %v", n, e)
		}
		if b.Len() != n {
			t.Errorf("New(%d): %d words, once one was stored", n, b.Len())
		}
	}
}

// P1.1, R3
func TestBanksHaveNothingInCommon(t *testing.T) {
	a, b := fresh(t, 2), fresh(t, 2)
	a.Store(1, 5)
	stands(t, "the one that was stored into", a, 1, 0, 5)
	stands(t, "the other one", b, 0, 0, 0)
}

// P1.2
func TestLoadAndStore(t *testing.T) {
	b := fresh(t, 3)
	for i, x := range []uint64{0, 1, 1 << 32, 1 << 63, greatest, 7} {
		for at := range 3 {
			if e := b.Store(at, x+uint64(at)); e != api.OK {
				t.Errorf("Store(%d, %d): %v", at, x, e)
			}
		}
		stands(t, "Store", b, 6*i+3, x, x+1, x+2)
		for at := range 3 {
			if got, e := b.Load(at); got != x+uint64(at) || e != api.OK {
				t.Errorf("Load(%d): %d, %v", at, got, e)
			}
		}
		stands(t, "Load", b, 6*i+6, x, x+1, x+2)
	}
}

// P1.2
func TestCAS(t *testing.T) {
	for _, c := range []struct {
		word, old, x, behind uint64
		is                   bool
	}{
		{0, 0, 1, 1, true},
		{0, 0, 0, 0, true},
		{0, 1, 2, 0, false},
		{5, 4, 9, 5, false},
		{5, 6, 9, 5, false},
		{5, 9, 5, 5, false},
		{5, 5, 9, 9, true},
		{5, 5, 5, 5, true},
		{greatest, greatest, 0, 0, true},
		{greatest, 0, 1, greatest, false},
		{1, 1 + 1<<32, 3, 1, false},
		{1 << 63, 1 << 63, greatest, greatest, true},
	} {
		b := with(t, 70, c.word, 90)
		if is, e := b.CAS(1, c.old, c.x); is != c.is || e != api.OK {
			t.Errorf("CAS(1, %d, %d) of %d: %v, %v", c.old, c.x, c.word, is, e)
		}
		stands(t, "CAS", b, 4, 70, c.behind, 90)
	}
}

// P1.2
func TestAddGoesRound(t *testing.T) {
	for _, c := range []struct{ word, by, behind uint64 }{
		{0, 0, 0},
		{0, 1, 1},
		{7, 5, 12},
		{greatest, 1, 0},
		{greatest, 3, 2},
		{greatest, greatest, greatest - 1},
		{0, greatest, greatest},
		{9, greatest - 7, 1},
		{1 << 63, 1 << 63, 0},
		{1<<32 - 1, 1, 1 << 32},
	} {
		b := with(t, 70, c.word, 90)
		if was, e := b.Add(1, c.by); was != c.word || e != api.OK {
			t.Errorf("Add(1, %d) of %d: %d, %v", c.by, c.word, was, e)
		}
		stands(t, "Add", b, 4, 70, c.behind, 90)
	}
}

// P1.2, P1.3, R1
func TestNoSuchWord(t *testing.T) {
	for _, n := range []int{1, 3} {
		b := fresh(t, n)
		for at := range n {
			b.Store(at, 40+uint64(at))
		}
		before := words(b)
		for _, at := range []int{-1, n, -2, n + 1, -n, 1 << 20, 1 << 32, 1 << 40, math.MinInt, math.MaxInt} {
			if x, e := b.Load(at); x != 0 || e != api.ErrRange {
				t.Errorf("Load(%d): %d, %v", at, x, e)
			}
			if e := b.Store(at, 1); e != api.ErrRange {
				t.Errorf("Store(%d): %v", at, e)
			}
			for _, old := range []uint64{0, 40, 42} {
				if is, e := b.CAS(at, old, 1); is || e != api.ErrRange {
					t.Errorf("CAS(%d): %v, %v", at, is, e)
				}
			}
			if x, e := b.Add(at, 1); x != 0 || e != api.ErrRange {
				t.Errorf("Add(%d): %d, %v", at, x, e)
			}
			if x := b.Peek(at); x != 0 {
				t.Errorf("Peek(%d): %d", at, x)
			}
			stands(t, "refused", b, n, before...)
		}
	}
}

// P1.3
func TestTouchesCountsAccesses(t *testing.T) {
	b := fresh(t, 2)
	counts := func(what string, by int, do func()) {
		t.Helper()
		before := b.Touches()
		do()
		if got := b.Touches() - before; got != by {
			t.Errorf("%s: %d accesses, not %d", what, got, by)
		}
	}
	counts("Load", 1, func() { b.Load(0) })
	counts("Store", 1, func() { b.Store(0, 3) })
	counts("a CAS that is", 1, func() { b.CAS(0, 3, 4) })
	counts("a CAS that is not", 1, func() { b.CAS(0, 3, 4) })
	counts("Add", 1, func() { b.Add(0, 1) })
	counts("Add of 0", 1, func() { b.Add(1, 0) })
	counts("Peek", 0, func() { b.Peek(0) })
	counts("Peek of none", 0, func() { b.Peek(2) })
	counts("Len", 0, func() { b.Len() })
	counts("Touches", 0, func() { b.Touches() })
	counts("Clone", 0, func() { b.Clone() })
	counts("a refused Load", 0, func() { b.Load(2) })
	counts("a refused Store", 0, func() { b.Store(-1, 0) })
	counts("a refused CAS", 0, func() { b.CAS(2, 0, 0) })
	counts("a refused Add", 0, func() { b.Add(-1, 0) })
}

// P1.3
func TestPeek(t *testing.T) {
	b := with(t, 3, 0, greatest)
	for at, x := range []uint64{3, 0, greatest} {
		if got := b.Peek(at); got != x {
			t.Errorf("Peek(%d): %d", at, got)
		}
	}
	b.Add(2, 2)
	if got := b.Peek(2); got != 1 {
		t.Errorf("Peek behind an Add: %d", got)
	}
}

// P1.3
func TestCloneGoesItsOwnWay(t *testing.T) {
	b := with(t, 3, 5, greatest)
	c := b.Clone()
	if c == nil || c == b || c.Len() != 3 {
		t.Fatalf("Clone: %v, of %v", c, b)
	}
	stands(t, "a clone", c, 3, 3, 5, greatest)
	c.Store(0, 7)
	c.Add(1, 1)
	stands(t, "the first, as the clone went on", b, 3, 3, 5, greatest)
	stands(t, "the clone that went on", c, 5, 7, 6, greatest)
	b.CAS(2, greatest, 4)
	stands(t, "the first, that went on", b, 4, 3, 5, 4)
	stands(t, "the clone, as the first went on", c, 5, 7, 6, greatest)
	d := c.Clone()
	d.Load(0)
	stands(t, "a clone's clone", d, 6, 7, 6, greatest)
	stands(t, "the clone of which it is one", c, 5, 7, 6, greatest)
	if e := c.Store(3, 1); e != api.ErrRange {
		t.Errorf("Store behind the clone's last word: %v", e)
	}
}

// P1.3
func TestCloneOfTheGreatest(t *testing.T) {
	b := fresh(t, api.MaxBank)
	for at := range b.Len() {
		b.Store(at, uint64(at)*0x9e3779b97f4a7c15)
	}
	c := b.Clone()
	if c.Len() != b.Len() || c.Touches() != b.Touches() {
		t.Fatalf("%d words, %d accesses", c.Len(), c.Touches())
	}
	for at := range b.Len() {
		if x := c.Peek(at); x != uint64(at)*0x9e3779b97f4a7c15 {
			t.Fatalf("word %d is %d", at, x)
		}
	}
}

// P1.3
func TestNilBank(t *testing.T) {
	var b *bank.Bank
	for _, at := range []int{-1, 0, 1, math.MinInt, math.MaxInt} {
		if x, e := b.Load(at); x != 0 || e != api.ErrNil {
			t.Errorf("Load(%d): %d, %v", at, x, e)
		}
		if e := b.Store(at, 1); e != api.ErrNil {
			t.Errorf("Store(%d): %v", at, e)
		}
		if is, e := b.CAS(at, 0, 1); is || e != api.ErrNil {
			t.Errorf("CAS(%d): %v, %v", at, is, e)
		}
		if x, e := b.Add(at, 1); x != 0 || e != api.ErrNil {
			t.Errorf("Add(%d): %d, %v", at, x, e)
		}
		if x := b.Peek(at); x != 0 {
			t.Errorf("Peek(%d): %d", at, x)
		}
	}
	if b.Len() != 0 || b.Touches() != 0 || b.Clone() != nil {
		t.Errorf("%d words, %d accesses, clone %v", b.Len(), b.Touches(), b.Clone())
	}
}

// The chapter's example.
func TestExample(t *testing.T) {
	b := fresh(t, 4)
	if x, e := b.Add(2, 7); x != 0 || e != api.OK {
		t.Error(x, e)
	}
	if is, e := b.CAS(2, 7, 9); !is || e != api.OK {
		t.Error(is, e)
	}
	if x, e := b.Add(2, 18446744073709551608); x != 9 || e != api.OK {
		t.Error(x, e)
	}
	if x, e := b.Load(2); x != 1 || e != api.OK {
		t.Error(x, e)
	}
	stands(t, "the example", b, 4, 0, 0, 1, 0)
}
