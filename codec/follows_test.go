package codec_test

import (
	"slices"
	"strings"
	"testing"

	"aileron/api"
	"aileron/codec"
)

// P4.5: here the calls are held against each other alone.

func TestWhatIsEncodedIsDecoded(t *testing.T) {
	s := source(7)
	for _, l := range someRows() {
		for range 5 {
			v := scatteredValues(l, &s)
			w, e := codec.Encode(l, v)
			if e != api.OK {
				t.Fatalf("Encode(%v, %v): %v", l, v, e)
			}
			if u, e := codec.Decode(l, w); e != api.OK || !same(u, v) {
				t.Errorf("%v of %v: %x, and back %v, %v", v, l, w, u, e)
			}
		}
	}
}

func TestWhatIsDecodedIsEncoded(t *testing.T) {
	s := source(8)
	for _, l := range someRows() {
		full := mask(l)
		for range 5 {
			w := make([]uint64, len(full))
			for i := range w {
				w[i] = s.next() & full[i]
			}
			v, e := codec.Decode(l, w)
			if e != api.OK {
				t.Fatalf("Decode(%v, %x): %v", l, w, e)
			}
			if again, e := codec.Encode(l, v); e != api.OK || !slices.Equal(again, w) {
				t.Errorf("%x of %v: %v, and back %x, %v", w, l, v, again, e)
			}
		}
	}
}

// P4.5: of small parts all records: two rows of values have never the same one.
func TestEachRecordIsOfOneRowOfValues(t *testing.T) {
	l := row(flag, whole(3), count(2), whole(2))
	values := map[[4]int64]bool{}
	for w := range uint64(512) {
		v, e := codec.Decode(l, []uint64{w})
		if (e == api.OK) != (w < 256) {
			t.Fatalf("%d: %v", w, e)
		}
		if e == api.OK {
			values[[4]int64{v[0].N, v[1].N, v[2].N, v[3].N}] = true
		}
	}
	if len(values) != 2*8*4*4 {
		t.Errorf("%d rows of values", len(values))
	}
}

func TestEachBeginningLiesWhereItLay(t *testing.T) {
	s := source(9)
	for _, l := range someRows() {
		at, words, _ := codec.Places(l)
		v := scatteredValues(l, &s)
		w, _ := codec.Encode(l, v)
		for n := 1; n <= len(l); n++ {
			if e := codec.Check(l[:n]); e != api.OK {
				t.Errorf("%d parts of %v: %v", n, l, e)
			}
			first, few, e := codec.Places(l[:n])
			if e != api.OK || !slices.Equal(first, at[:n]) || few > words {
				t.Errorf("%d parts of %v: %v, %d, %v", n, l, first, few, e)
			}
			// All words of the beginning but its last one are those of the whole.
			x, e := codec.Encode(l[:n], v[:n])
			if e != api.OK || len(x) != few || !slices.Equal(x[:few-1], w[:few-1]) || x[few-1]&^w[few-1] != 0 {
				t.Errorf("%d values of %v: %x, %v, not %x", n, l, x, e, w)
			}
		}
	}
}

func TestWhatIsPrintedIsParsed(t *testing.T) {
	for _, l := range someRows() {
		s, e := codec.Print(l)
		if e != api.OK {
			t.Fatalf("Print(%v): %v", l, e)
		}
		got, e := codec.Parse(s)
		if e != api.OK || !slices.Equal(got, l) {
			t.Errorf("Parse(%q): %v, %v", s, got, e)
		}
		if again, e := codec.Print(got); e != api.OK || again != s {
			t.Errorf("%q is printed again as %q, %v", s, again, e)
		}
	}
}

// R2: nothing that is handed in is written into, nor what stands behind its length.
func TestWhatIsHandedInStays(t *testing.T) {
	l := row(flag, count(7), point, whole(5))
	v := []codec.Value{{N: 1}, {N: 5}, {Z: 3 - 2i}, {N: -9}, {N: 77}}
	w := []uint64{11, 18446744065119617027, 23, 77}
	for n := 1; n <= 4; n++ {
		inL, inV, inW := slices.Clone(l), slices.Clone(v), slices.Clone(w)
		for m := range len(w) + 1 {
			codec.Check(inL[:n])
			codec.Places(inL[:n])
			codec.Print(inL[:n])
			codec.Encode(inL[:n], inV[:m])
			codec.Decode(inL[:n], inW[:m])
		}
		if !slices.Equal(inL, l) || !slices.Equal(inV, v) || !slices.Equal(inW, w) {
			t.Errorf("%d parts: %v, %v, %v", n, inL, inV, inW)
		}
	}
}

// R2: what was answered is the caller's, and what it does with it turns no other answer.
func TestWhatIsAnsweredIsTheCallers(t *testing.T) {
	l, v := row(flag, count(7), point), []codec.Value{{N: 1}, {N: 5}, {Z: 3 - 2i}}
	s := strings.Join([]string{"flag", "count7", "point"}, " ")
	for range 2 {
		at, _, _ := codec.Places(l)
		w, _ := codec.Encode(l, v)
		u, _ := codec.Decode(l, w)
		p, _ := codec.Parse(s)
		if at[1] != [2]int{0, 1} || w[0] != 11 || u[1].N != 5 || p[1] != count(7) {
			t.Error(at, w, u, p)
		}
		clear(at)
		clear(w)
		clear(u)
		clear(p)
		if v[1].N != 5 || l[1] != count(7) {
			t.Error(v, l)
		}
	}
}
