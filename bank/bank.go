// Package bank is layer 1: see shared/doc/01-bank.md.
package bank

import (
	"sync/atomic"

	"aileron/api"
)

// Bank is words that several tasks share, one access at a time.
type Bank struct {
	words   []atomic.Uint64
	touches atomic.Int64 // atomic as the words are: several tasks count at the same time
}

// New is a bank of so many words, all of them 0.
func New(n int) (*Bank, api.Errno) {
	if n < 1 || n > api.MaxBank {
		return nil, api.ErrRange
	}
	return &Bank{words: make([]atomic.Uint64, n)}, api.OK
}

// Len is how many words there are.
func (b *Bank) Len() int {
	if b == nil {
		return 0
	}
	return len(b.words)
}

// look tells why words that are asked for can't be had, ahead of any access: a refused call touches nothing.
func (b *Bank) look(asked ...int) api.Errno {
	if b == nil {
		return api.ErrNil
	}
	for _, at := range asked {
		if at < 0 || at >= len(b.words) {
			return api.ErrRange
		}
	}
	return api.OK
}

// Load is a word: one access.
func (b *Bank) Load(at int) (uint64, api.Errno) {
	if e := b.look(at); e != api.OK {
		return 0, e
	}
	b.touches.Add(1)
	return b.words[at].Load(), api.OK
}

// Store lets a word be another one: one access.
func (b *Bank) Store(at int, x uint64) api.Errno {
	if e := b.look(at); e != api.OK {
		return e
	}
	b.touches.Add(1)
	b.words[at].Store(x)
	return api.OK
}

// CAS lets a word be another one, if it is what it should be; whether it was: one access.
func (b *Bank) CAS(at int, old, x uint64) (bool, api.Errno) {
	if e := b.look(at); e != api.OK {
		return false, e
	}
	b.touches.Add(1)
	return b.words[at].CompareAndSwap(old, x), api.OK
}

// Add adds to a word; what it was: one access.
func (b *Bank) Add(at int, by uint64) (uint64, api.Errno) {
	if e := b.look(at); e != api.OK {
		return 0, e
	}
	b.touches.Add(1)
	return b.words[at].Add(by) - by, api.OK
}

// Touches is how many accesses there were.
func (b *Bank) Touches() int {
	if b == nil {
		return 0
	}
	return int(b.touches.Load())
}

// Peek is a word, without an access.
func (b *Bank) Peek(at int) uint64 {
	if b.look(at) != api.OK {
		return 0
	}
	return b.words[at].Load()
}

// Clone is a bank of its own, the same.
func (b *Bank) Clone() *Bank {
	if b == nil {
		return nil
	}
	c := &Bank{words: make([]atomic.Uint64, len(b.words))}
	for at := range len(b.words) {
		c.words[at].Store(b.words[at].Load())
	}
	c.touches.Store(b.touches.Load())
	return c
}
