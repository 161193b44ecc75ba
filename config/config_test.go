package config_test

import (
	"fmt"
	"math"
	"slices"
	"strconv"
	"strings"
	"testing"

	"aileron/api"
	"aileron/config"
)

// topic is a topic, short to write.
func topic(name string, words, depth int) api.Topic {
	return api.Topic{Name: name, Words: words, Depth: depth}
}

// with is a config of those topics that is right as a whole.
func with(l ...api.Topic) api.Config {
	return api.Config{Tasks: 2, Tries: 3, Log: 8, Topics: l}
}

// many is a config of so many right topics.
func many(n int) api.Config {
	c := with()
	for i := range n {
		c.Topics = append(c.Topics, topic("t"+strconv.Itoa(i), 1+i%64, 2+i%15))
	}
	return c
}

// rightConfigs are configs without a fault: each number at its least, its greatest and between, and some, one and 64 topics.
func rightConfigs() []api.Config {
	all := []api.Config{
		with(topic("pose", 6, 4)), with(topic("pose", 6, 4), topic("goal2", 64, 16)), with(topic("a", 1, 2), topic("aa", 64, 16), topic("a1", 1, 16), topic("a11", 64, 2)),
		with(topic("abcdefghijklmnop", 7, 3), topic("abcdefghijklmno", 7, 3)), with(topic("z0123456789", 1, 2)), with(topic("tasks", 1, 2), topic("topic", 2, 3), topic("words", 3, 4), topic("depth", 4, 5)),
	}
	for n := 1; n <= 64; n++ {
		all = append(all, many(n))
	}
	for tasks := 1; tasks <= 8; tasks++ {
		for tries := 1; tries <= 16; tries++ {
			c := many(1 + tasks*tries%64)
			c.Tasks, c.Tries, c.Log = tasks, tries, 1+(tasks*16+tries)*7%64
			all = append(all, c)
		}
	}
	for n := 1; n <= 64; n++ {
		c := with(topic("a", n, 2+n%15))
		c.Log = n
		all = append(all, c)
	}
	return all
}

// isName is whether a text is a name, by the letters that it may have.
func isName(s string) bool {
	return len(s) >= 1 && len(s) <= 16 && strings.Trim(s, "abcdefghijklmnopqrstuvwxyz0123456789") == "" && !strings.Contains("0123456789", s[:1])
}

// checked is the first fault, by the chapter's words.
func checked(c api.Config) config.Fault {
	switch {
	case c.Tasks < 1 || c.Tasks > 8:
		return config.Fault{Topic: -1, Code: api.ErrRange}
	case len(c.Topics) < 1 || len(c.Topics) > 64:
		return config.Fault{Topic: -1, Code: api.ErrLong}
	case c.Tries < 1 || c.Tries > 16 || c.Log < 1 || c.Log > 64:
		return config.Fault{Topic: -1, Code: api.ErrRange}
	}
	for i, t := range c.Topics {
		switch {
		case !isName(t.Name):
			return config.Fault{Topic: i, Code: api.ErrName}
		case slices.ContainsFunc(c.Topics[:i], func(u api.Topic) bool { return u.Name == t.Name }):
			return config.Fault{Topic: i, Code: api.ErrThere}
		case t.Words < 1 || t.Words > 64 || t.Depth < 2 || t.Depth > 16:
			return config.Fault{Topic: i, Code: api.ErrRange}
		}
	}
	return config.Fault{}
}

// short is what a failing test tells of a config: its beginning, however many topics there are.
func short(c api.Config) string { return fmt.Sprintf("%.200q", text(c)) }

// fault looks at what Check and Print tell of a config.
func fault(t *testing.T, c api.Config, want config.Fault) {
	t.Helper()
	if f := config.Check(c); f != want {
		t.Errorf("Check(%s): %v, not %v", short(c), f, want)
	}
	if s, e := config.Print(c); e != want.Code || want.Code != api.OK && s != "" {
		t.Errorf("Print(%s): %.200q, %v, not %v", short(c), s, e, want.Code)
	}
}

// P5.1: names that are written out.
func TestNames(t *testing.T) {
	for _, s := range []string{"a", "z", "pose", "goal2", "a0", "a9", "z9", "x123456789", "abcdefghijklmnop", "a123456789012345", "zzzzzzzzzzzzzzzz"} {
		if !config.Name(s) {
			t.Errorf("%q is no name", s)
		}
	}
	for _, s := range []string{
		"", "0", "9", "1a", "0pose", "A", "Pose", "poSe", "posE", "POSE", " ", " a", "a ", "a b", "a\n", "\na", "\x00", "a\x00", "a_", "_a", "a-b", "a.b", "a/b", "a:b", "`", "{", "a`", "a{", "@", "[",
		"\u00e4", "a\u00e4", "\u00e4a", "\xff", "a\xff", "a\x80b", "a\u0661", "\uff41", "a\uff11", "abcdefghijklmnopq", "a1234567890123456", "aaaaaaaaaaaaaaaa ", " aaaaaaaaaaaaaaaa", "aaaaaaaa\u00e4\u00e4\u00e4\u00e4",
	} {
		if config.Name(s) {
			t.Errorf("%q is a name", s)
		}
	}
}

// P5.1
func TestNamesOfEachLength(t *testing.T) {
	for n := range 300 {
		if got := config.Name(strings.Repeat("a", n)); got != (n >= 1 && n <= 16) {
			t.Errorf("%d letters: %v", n, got)
		}
		if got := config.Name("b" + strings.Repeat("7", n)); got != (n <= 15) {
			t.Errorf("a letter and %d digits: %v", n, got)
		}
		if config.Name("7" + strings.Repeat("b", n)) {
			t.Errorf("a digit and %d letters", n)
		}
	}
}

// P5.1: each byte, at each place of names of each length.
func TestNamesOfEachByte(t *testing.T) {
	for n := 1; n <= 17; n++ {
		for at := range n {
			for b := range 256 {
				s := []byte(strings.Repeat("k", n))
				s[at] = byte(b)
				letter, digit := b >= 'a' && b <= 'z', b >= '0' && b <= '9'
				if got := config.Name(string(s)); got != (n <= 16 && (letter || digit && at > 0)) {
					t.Errorf("%q: %v", s, got)
				}
			}
		}
	}
}

// P5.1
func TestConfigsWithoutFault(t *testing.T) {
	for _, c := range rightConfigs() {
		fault(t, c, config.Fault{})
	}
}

// P5.1: faults that are written out, each behind one that is told first, if there is one.
func TestFaultsWrittenOut(t *testing.T) {
	a, b := topic("a", 1, 2), topic("b", 64, 16)
	for _, x := range []struct {
		c    api.Config
		at   int
		code api.Errno
	}{
		{api.Config{}, -1, api.ErrRange},
		{api.Config{Tasks: 1}, -1, api.ErrLong},
		{api.Config{Tasks: 9, Tries: 1, Log: 1}, -1, api.ErrRange},
		{api.Config{Tasks: 8, Tries: 17, Log: 1}, -1, api.ErrLong},
		{api.Config{Tasks: 8, Tries: 1, Log: 0, Topics: make([]api.Topic, 65)}, -1, api.ErrLong},
		{api.Config{Tasks: 8, Tries: 1, Log: 0, Topics: make([]api.Topic, 64)}, -1, api.ErrRange},
		{api.Config{Tasks: 8, Tries: 1, Log: 1, Topics: make([]api.Topic, 64)}, 0, api.ErrName},
		{api.Config{Tasks: 8, Tries: 0, Log: 1, Topics: make([]api.Topic, 1)}, -1, api.ErrRange},
		{with(a, topic("a", 0, 0)), 1, api.ErrThere}, {with(a, topic("A", 0, 0)), 1, api.ErrName}, {with(topic("a", 0, 2), a), 0, api.ErrRange}, {with(a, b, a, b), 2, api.ErrThere}, {with(a, a, a), 1, api.ErrThere},
		{with(topic("", 1, 2), topic("", 1, 2)), 0, api.ErrName}, {with(topic("a", 65, 2), topic("", 1, 2)), 0, api.ErrRange}, {with(a, topic("b", 1, 17), topic("", 1, 2)), 1, api.ErrRange},
	} {
		fault(t, x.c, config.Fault{Topic: x.at, Code: x.code})
	}
}

// around are a range's edges, one beyond each, and numbers far off.
func around(least, most int) []int {
	return []int{least, most, (least + most) / 2, least - 1, most + 1, 0, -1, -most, math.MinInt, math.MaxInt, math.MinInt32, math.MaxInt32, most + 1<<8, least + 1<<8, least + 1<<32, -1 << 32}
}

// P5.1: numbers of the config as a whole, at their edges and beyond, with all others so.
func TestEdgesOfTheWhole(t *testing.T) {
	for _, tasks := range around(1, 8) {
		for _, tries := range around(1, 16) {
			for _, log := range around(1, 64) {
				for _, topics := range [][]api.Topic{nil, {}, many(1).Topics, many(64).Topics, many(65).Topics, {topic("", 0, 0)}, make([]api.Topic, 65)} {
					c := api.Config{Tasks: tasks, Tries: tries, Log: log, Topics: topics}
					if f := config.Check(c); f != checked(c) {
						t.Errorf("%d tasks, %d tries, log %d, %d topics: %v, not %v", tasks, tries, log, len(topics), f, checked(c))
					}
				}
			}
		}
	}
}

// P5.1: each number alone is beyond its range, all others are right.
func TestOneNumberBeyond(t *testing.T) {
	for _, x := range []struct {
		least, most int
		at          int
		put         func(c *api.Config, n int)
	}{
		{1, 8, -1, func(c *api.Config, n int) { c.Tasks = n }},
		{1, 16, -1, func(c *api.Config, n int) { c.Tries = n }},
		{1, 64, -1, func(c *api.Config, n int) { c.Log = n }},
		{1, 64, 0, func(c *api.Config, n int) { c.Topics[0].Words = n }},
		{2, 16, 0, func(c *api.Config, n int) { c.Topics[0].Depth = n }},
		{1, 64, 63, func(c *api.Config, n int) { c.Topics[63].Words = n }},
		{2, 16, 63, func(c *api.Config, n int) { c.Topics[63].Depth = n }},
	} {
		for n := -300; n <= 300; n++ {
			c := many(64)
			x.put(&c, n)
			if n < x.least || n > x.most {
				fault(t, c, config.Fault{Topic: x.at, Code: api.ErrRange})
			} else {
				fault(t, c, config.Fault{})
			}
		}
	}
}

// P5.1
func TestHowManyTopics(t *testing.T) {
	for _, n := range []int{0, 65, 66, 128, 256, 257, 1000, 70000} {
		fault(t, many(n), config.Fault{Topic: -1, Code: api.ErrLong})
	}
	for n := 1; n <= 64; n++ {
		fault(t, many(n), config.Fault{})
	}
}

// P5.1: a topic's name and numbers, at their edges and beyond, with all others so, at several places.
func TestEdgesOfTopics(t *testing.T) {
	for _, at := range []int{0, 1, 31, 62, 63} {
		for _, name := range []string{"a", "abcdefghijklmnop", "abcdefghijklmnopq", "", "1a", "Pose", "a b", "a\xff", "t0", "t1", "t30", "t62", "t63"} {
			for _, words := range around(1, 64) {
				for _, depth := range around(2, 16) {
					c := many(64)
					c.Topics[at] = topic(name, words, depth)
					if f := config.Check(c); f != checked(c) {
						t.Errorf("topic %d %q, %d words, depth %d: %v, not %v", at, name, words, depth, f, checked(c))
					}
				}
			}
		}
	}
}

// P5.1: each two of 64 topics have one name, side by side and far apart.
func TestTwoTopicsOfOneName(t *testing.T) {
	for j := range 64 {
		for i := range j {
			c := many(64)
			c.Topics[j].Name = c.Topics[i].Name
			fault(t, c, config.Fault{Topic: j, Code: api.ErrThere})
			c.Topics[j].Words, c.Topics[j].Depth = 0, 0
			fault(t, c, config.Fault{Topic: j, Code: api.ErrThere})
			c.Topics[i].Words = 0
			fault(t, c, config.Fault{Topic: i, Code: api.ErrRange})
		}
	}
}

// P5.1: of two topics that are wrong the first one is told, whatever is wrong with it.
func TestTheFirstWrongTopic(t *testing.T) {
	wrong := []struct {
		topic api.Topic
		code  api.Errno
	}{{topic("B", 1, 2), api.ErrName}, {topic("t0", 1, 2), api.ErrThere}, {topic("b", 0, 2), api.ErrRange}, {topic("b", 1, 1), api.ErrRange}}
	for _, x := range wrong {
		for _, y := range wrong {
			for i := 1; i < 6; i++ {
				for j := i + 1; j < 6; j++ {
					c := many(6)
					c.Topics[i], c.Topics[j] = x.topic, y.topic
					fault(t, c, config.Fault{Topic: i, Code: x.code})
				}
			}
		}
	}
}

// found looks at where a name is.
func found(t *testing.T, c api.Config, name string, at int) {
	t.Helper()
	want := api.OK
	if at < 0 {
		at, want = 0, api.ErrNone
	}
	if i, e := config.Find(c, name); i != at || e != want {
		t.Errorf("Find(%s, %q): %d, %v, not %d, %v", short(c), name, i, e, at, want)
	}
}

// P5.2
func TestFind(t *testing.T) {
	for _, c := range rightConfigs() {
		for i, p := range c.Topics {
			found(t, c, p.Name, i)
		}
		for _, s := range []string{"", " ", "t", "T0", "pos", "posee", "Pose", "t0 ", " t0", "t00", "t64", "t0\n", "none", strings.Repeat("a", 17), "\xff"} {
			found(t, c, s, -1)
		}
	}
}

// P5.2: whatever Check tells.
func TestFindWhereThereIsAFault(t *testing.T) {
	c := api.Config{Tasks: -1, Log: 99, Topics: []api.Topic{topic("b", 0, 0), topic("", 1, 2), topic("A 1", -1, 99), topic("b", 1, 2), topic("A 1", 1, 2), topic("\xff", 1, 2), topic("", 3, 4), topic("last", 5, 6)}}
	for s, at := range map[string]int{"b": 0, "": 1, "A 1": 2, "\xff": 5, "last": 7, "a 1": -1, "B": -1, "A": -1, "las": -1, "\xfe": -1, "\ufffd": -1} {
		found(t, c, s, at)
	}
	found(t, api.Config{}, "", -1)
	found(t, api.Config{}, "a", -1)
	found(t, with(), "a", -1)
	found(t, many(1000), "t999", 999)
	found(t, many(1000), "t1000", -1)
	twice := many(64)
	for i := range twice.Topics {
		twice.Topics[i].Name = "t" + strconv.Itoa(i%8)
	}
	for i := range 8 {
		found(t, twice, "t"+strconv.Itoa(i), i)
	}
}

// twin is a config that has nothing in common with c but what it tells.
func twin(c api.Config) api.Config {
	c.Topics = slices.Clone(c.Topics)
	for i := range c.Topics {
		c.Topics[i].Name = strings.Clone(c.Topics[i].Name)
	}
	return c
}

// sameness looks at whether configs are the same, whichever stands first.
func sameness(t *testing.T, a, b api.Config, want bool) {
	t.Helper()
	if got, back := config.Same(a, b), config.Same(b, a); got != want || back != want {
		t.Errorf("Same(%s, %s): %v, and the other way round %v", short(a), short(b), got, back)
	}
}

// P5.2
func TestSame(t *testing.T) {
	wrong := api.Config{Tasks: -1, Log: math.MaxInt, Topics: []api.Topic{topic("", 0, -1), topic("", 0, -1), topic("A\xff", math.MinInt, 3)}}
	for _, c := range append(rightConfigs(), wrong, api.Config{}, many(65), many(1000)) {
		sameness(t, c, c, true)
		sameness(t, c, twin(c), true)
	}
	sameness(t, api.Config{}, api.Config{Topics: []api.Topic{}}, true)
	all := rightConfigs()[:70]
	for i := range all {
		for j := range i {
			sameness(t, all[i], all[j], false)
		}
	}
}

// P5.2: but for one number, one name, the order, or one topic.
func TestSameButForOneThing(t *testing.T) {
	for _, c := range []api.Config{with(topic("pose", 6, 4)), many(2), many(64), {}, {Topics: []api.Topic{{}, {}}}, many(70)} {
		for _, n := range []int{1, -1, 1 << 8, 1 << 32, math.MinInt} {
			for _, turn := range []func(c *api.Config){func(c *api.Config) { c.Tasks += n }, func(c *api.Config) { c.Tries += n }, func(c *api.Config) { c.Log += n }} {
				x := twin(c)
				turn(&x)
				sameness(t, c, x, false)
			}
			for i := range c.Topics {
				for _, turn := range []func(p *api.Topic){func(p *api.Topic) { p.Words += n }, func(p *api.Topic) { p.Depth += n }, func(p *api.Topic) { p.Name += "a" }, func(p *api.Topic) { p.Name = "Z" }} {
					x := twin(c)
					turn(&x.Topics[i])
					sameness(t, c, x, false)
				}
			}
		}
		more := twin(c)
		more.Topics = append(more.Topics, api.Topic{})
		sameness(t, c, more, false)
		for i := range c.Topics {
			less := twin(c)
			less.Topics = slices.Delete(less.Topics, i, i+1)
			sameness(t, c, less, false)
		}
	}
	x := with(topic("a", 1, 2), topic("b", 3, 4))
	sameness(t, x, with(topic("b", 3, 4), topic("a", 1, 2)), false)
	sameness(t, x, with(topic("a", 3, 4), topic("b", 1, 2)), false)
	sameness(t, x, with(topic("b", 1, 2), topic("a", 3, 4)), false)
	sameness(t, api.Config{Tasks: 2, Tries: 3, Log: 8}, api.Config{Tasks: 3, Tries: 2, Log: 8}, false)
	sameness(t, with(topic("a", 4, 6)), with(topic("a", 6, 4)), false)
}
