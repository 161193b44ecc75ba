package seq_test

import (
	"testing"

	"aileron/api"
	"aileron/seq"
)

// P7.4: who takes a sequence, and gives it, has published one more; between the two it is held, and nothing more is published.
func TestTakeAndGivePublishOne(t *testing.T) {
	for _, s := range sequences() {
		s &^= 1
		if s == greatest-1 {
			continue
		}
		taken, e := seq.Take(s)
		if e != api.OK || !seq.Held(taken) || seq.Gen(taken) != seq.Gen(s) {
			t.Fatalf("Take of %d: %d, %v", s, taken, e)
		}
		given, e := seq.Give(taken)
		if e != api.OK || seq.Held(given) || seq.Gen(given) != seq.Gen(s)+1 || seq.Since(given, seq.Gen(s)) != 1 {
			t.Fatalf("Give of %d: %d, %v", taken, given, e)
		}
	}
}

// P7.4: the greatest sequence may be taken, but its next generation is never published: nothing comes to 0 again.
func TestTheGreatestIsNotGiven(t *testing.T) {
	s, e := seq.Take(greatest - 1)
	if s != greatest || e != api.OK {
		t.Fatalf("Take: %d, %v", s, e)
	}
	if s, e = seq.Give(s); s != 0 || e != api.ErrRange {
		t.Fatalf("Give: %d, %v", s, e)
	}
}

// P7.4: the newest generation is Kept, and so are those from First on up to it and no others near them: as many as places, or one less while it is held, once there are as many.
func TestKeptIsFromFirstToTheNewest(t *testing.T) {
	for _, s := range sequences() {
		for depth := 2; depth <= 16; depth++ {
			newest, oldest := seq.Gen(s), seq.First(s, depth)
			many := uint64(depth)
			if seq.Held(s) {
				many--
			}
			if many = min(many, newest+1); newest-oldest+1 != many {
				t.Fatalf("sequence %d, depth %d: %d kept, not %d", s, depth, newest-oldest+1, many)
			}
			if !seq.Kept(s, newest, depth) {
				t.Fatalf("sequence %d, depth %d: the newest is not kept", s, depth)
			}
			for _, gen := range generations(s) {
				kept(t, s, gen, depth, oldest <= gen && gen <= newest)
			}
		}
	}
}

// walk is what Take and Give, one behind the other, come to from an even sequence on.
func walk(t *testing.T, s uint64, steps int) []uint64 {
	all := []uint64{s}
	for range steps {
		f := seq.Take
		if seq.Held(s) {
			f = seq.Give
		}
		next, e := f(s)
		if e != api.OK {
			t.Fatalf("behind %d: %v", s, e)
		}
		s = next
		all = append(all, s)
	}
	return all
}

// P7.4: what was Kept and is not any more is never again, and First never goes back.
func TestWhatIsLostIsNeverKeptAgain(t *testing.T) {
	for _, from := range []uint64{0, 30, 1<<33 - 20, 1<<63 - 40, greatest - 121} {
		from &^= 1
		for depth := 2; depth <= 16; depth++ {
			was, lost := map[uint64]bool{}, map[uint64]bool{}
			oldest := uint64(0)
			for _, s := range walk(t, from, 120) {
				for d := range min(seq.Gen(s), 90) + 1 {
					gen := seq.Gen(s) - d
					is := seq.Kept(s, gen, depth)
					if is && lost[gen] {
						t.Fatalf("sequence %d, depth %d: generation %d is kept again", s, depth, gen)
					}
					lost[gen] = lost[gen] || was[gen] && !is
					was[gen] = is
				}
				if next := seq.First(s, depth); next < oldest {
					t.Fatalf("sequence %d, depth %d: first went back from %d to %d", s, depth, oldest, next)
				} else {
					oldest = next
				}
			}
			if len(lost) == 0 || !lost[oldest-1] {
				t.Fatalf("from %d on, depth %d: the test's own walk lost nothing", from, depth)
			}
		}
	}
}
