package config_test

import (
	"slices"
	"strings"
	"testing"

	"aileron/api"
	"aileron/config"
)

// P5.5: here the calls are held against each other alone.

func TestWhatIsPrintedIsParsed(t *testing.T) {
	for _, c := range rightConfigs() {
		s, e := config.Print(c)
		if e != api.OK {
			t.Fatalf("Print(%s): %v", short(c), e)
		}
		got, n, e := config.Parse(s)
		if n != 0 || e != api.OK || !config.Same(got, c) {
			t.Errorf("Parse(%.200q): %s, %d, %v", s, short(got), n, e)
		}
	}
}

// P5.5: each text that is parsed, of those that come near a right one, is printed as it was.
func TestWhatIsParsedIsPrinted(t *testing.T) {
	s := text(with(topic("pose", 6, 4), topic("p2", 10, 16)))
	right := 0
	for i := range len(s) {
		for b := range 256 {
			for _, x := range []string{s[:i] + string([]byte{byte(b)}) + s[i+1:], s[:i] + string([]byte{byte(b)}) + s[i:], s[:i] + s[i+1:]} {
				c, _, e := config.Parse(x)
				if e != api.OK {
					continue
				}
				right++
				if again, e := config.Print(c); e != api.OK || again != x {
					t.Errorf("%q is printed as %q, %v", x, again, e)
				}
			}
		}
	}
	if right < 100 {
		t.Errorf("only %d texts are right", right)
	}
}

func TestAConfigWithoutATopic(t *testing.T) {
	for _, c := range rightConfigs() {
		for i := range c.Topics {
			less := c
			less.Topics = slices.Delete(slices.Clone(c.Topics), i, i+1)
			want := config.Fault{}
			if len(c.Topics) == 1 {
				want = config.Fault{Topic: -1, Code: api.ErrLong}
			}
			if f := config.Check(less); f != want {
				t.Errorf("%s without topic %d: %v", short(c), i, f)
			}
			if k, e := config.Find(less, c.Topics[i].Name); k != 0 || e != api.ErrNone {
				t.Errorf("%s without topic %d: it is found at %d, %v", short(c), i, k, e)
			}
		}
	}
}

func TestNamesAreFoundWhereTheyStand(t *testing.T) {
	for _, c := range rightConfigs() {
		for i, p := range c.Topics {
			if k, e := config.Find(c, p.Name); k != i || e != api.OK || !config.Name(p.Name) {
				t.Errorf("%q of topic %d: %d, %v", p.Name, i, k, e)
			}
		}
	}
}

// R2: nothing that is handed in is written into, nor what stands behind its length.
func TestWhatIsHandedInStays(t *testing.T) {
	for _, all := range []api.Config{many(64), many(70), with(topic("a", 1, 2), topic("a", 1, 2), topic("", 0, 0), topic("b", 99, 99))} {
		for n := range len(all.Topics) + 1 {
			in := slices.Clone(all.Topics)
			c := all
			c.Topics = in[:n]
			config.Check(c)
			config.Print(c)
			config.Find(c, "a")
			config.Same(c, all)
			config.Same(all, c)
			if !slices.Equal(in, all.Topics) {
				t.Errorf("%d topics of %s: %v", n, short(all), in)
			}
		}
	}
}

// R2, R3: what was answered is the caller's, and what it does with it turns no other answer.
func TestWhatIsAnsweredIsTheCallers(t *testing.T) {
	s := text(many(64))
	for range 3 {
		c, n, e := config.Parse(s)
		if n != 0 || e != api.OK || !config.Same(c, many(64)) {
			t.Fatal(c, n, e)
		}
		clear(c.Topics[:cap(c.Topics)])
		if f := config.Check(many(64)); f != (config.Fault{}) {
			t.Error(f)
		}
	}
	if strings.Count(s, "\n") != 65 {
		t.Errorf("%q", s)
	}
}
