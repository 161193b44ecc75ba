package plan_test

import (
	"fmt"
	"math"
	"slices"
	"strconv"
	"testing"

	"aileron/api"
	"aileron/config"
	"aileron/plan"
)

// topic is a topic, short to write.
func topic(name string, words, depth int) api.Topic {
	return api.Topic{Name: name, Words: words, Depth: depth}
}

// with is a config of so many entries and those topics that is right as a whole.
func with(log int, l ...api.Topic) api.Config {
	return api.Config{Tasks: 2, Tries: 3, Log: log, Topics: l}
}

// many is a config of so many topics, whose words and depths are not the same.
func many(n int) api.Config {
	c := with(8)
	for i := range n {
		c.Topics = append(c.Topics, topic("t"+strconv.Itoa(i), 1+i*37%64, 2+i*11%15))
	}
	return c
}

// alike is a config of so many topics that differ in their names alone.
func alike(log, n, words, depth int) api.Config {
	c := with(log)
	for i := range n {
		c.Topics = append(c.Topics, topic("t"+strconv.Itoa(i), words, depth))
	}
	return c
}

// least and greatest are the configs of the fewest words, and of the most.
func least() api.Config {
	return api.Config{Tasks: 1, Tries: 1, Log: 1, Topics: []api.Topic{topic("a", 1, 2)}}
}

func greatest() api.Config {
	c := alike(64, 64, 64, 16)
	c.Tasks, c.Tries = 8, 16
	return c
}

// rightConfigs are configs without a fault: each number at its least, its greatest and between, with one topic, some, and 64.
func rightConfigs() []api.Config {
	all := []api.Config{
		least(), greatest(), with(8, topic("pose", 6, 4)), with(3, topic("a", 2, 3), topic("b", 1, 2)), with(64, topic("a", 1, 2)), with(1, topic("a", 64, 16)),
		with(5, topic("a", 1, 16), topic("b", 64, 2), topic("c", 64, 16), topic("d", 1, 2)), alike(1, 64, 1, 2), alike(64, 2, 64, 16), alike(1, 3, 2, 5), alike(2, 3, 5, 2),
	}
	for n := 1; n <= 64; n++ {
		c := many(n)
		c.Log = 1 + n*29%64
		all = append(all, c, with(n, topic("a", n, 2+n%15), topic("b", 65-n, 2+n%7)))
	}
	for depth := 2; depth <= 16; depth++ {
		all = append(all, with(depth, topic("a", 7, depth)), with(depth, topic("b", depth, depth), topic("a", 18-depth, 18-depth)))
	}
	return all
}

// word is what a word of the bank is: of which thing it is part, and, of an entry or a place, which one, and which word of that.
type word struct {
	thing string
	topic int
	which int
	n     int
}

// bankOf is all words of a bank, one behind the other, as the chapter tells them.
func bankOf(c api.Config) []word {
	l := []word{{thing: "register"}}
	for i := range c.Log {
		l = append(l, word{thing: "entry", which: i})
	}
	for k, t := range c.Topics {
		l = append(l, word{thing: "owners", topic: k}, word{thing: "sequence", topic: k})
		for i := range t.Depth {
			for n := range t.Words {
				l = append(l, word{thing: "place", topic: k, which: i, n: n})
			}
		}
	}
	return l
}

// planOf is the plan of such a bank: where the first word of each thing is found.
func planOf(c api.Config) plan.Plan {
	at := map[word]int{}
	for i, w := range bankOf(c) {
		at[w] = i
	}
	p := plan.Plan{Reg: at[word{thing: "register"}], Log: at[word{thing: "entry"}], Long: c.Log, Size: len(at)}
	for k, t := range c.Topics {
		p.Spots = append(p.Spots, plan.Spot{Owners: at[word{thing: "owners", topic: k}], Seq: at[word{thing: "sequence", topic: k}], First: at[word{thing: "place", topic: k}], Words: t.Words, Depth: t.Depth})
	}
	return p
}

// same is whether two plans tell the same, field by field.
func same(a, b plan.Plan) bool {
	return a.Reg == b.Reg && a.Log == b.Log && a.Long == b.Long && a.Size == b.Size && slices.Equal(a.Spots, b.Spots)
}

// short is what a failing test tells of a config or a plan: its beginning, however many topics there are.
func short(x any) string { return fmt.Sprintf("%.200q", fmt.Sprint(x)) }

// of is the plan of a config that has to have one.
func of(t *testing.T, c api.Config) plan.Plan {
	t.Helper()
	p, e := plan.Of(c)
	if e != api.OK {
		t.Fatalf("Of(%s): %v", short(c), e)
	}
	return p
}

// planned looks at the plan of a config.
func planned(t *testing.T, c api.Config, want plan.Plan) {
	t.Helper()
	if p, e := plan.Of(c); !same(p, want) || e != api.OK {
		t.Errorf("Of(%s): %s, %v, not %s", short(c), short(p), e, short(want))
	}
}

// refused looks at a config that has no plan.
func refused(t *testing.T, c api.Config, code api.Errno) {
	t.Helper()
	if p, e := plan.Of(c); !same(p, plan.Plan{}) || e != code {
		t.Errorf("Of(%s): %s, %v, not %v", short(c), short(p), e, code)
	}
}

// The chapter's example.
func TestExample(t *testing.T) {
	c := with(8, topic("pose", 6, 4))
	planned(t, c, plan.Plan{Reg: 0, Log: 1, Long: 8, Size: 35, Spots: []plan.Spot{{Owners: 9, Seq: 10, First: 11, Words: 6, Depth: 4}}})
	p := of(t, c)
	if p.Spots[0].At(5) != 17 || p.Entry(9) != 2 {
		t.Error(p.Spots[0].At(5), p.Entry(9))
	}
}

// P6.1: plans that are written out.
func TestPlansWrittenOut(t *testing.T) {
	planned(t, least(), plan.Plan{Reg: 0, Log: 1, Long: 1, Size: 6, Spots: []plan.Spot{{Owners: 2, Seq: 3, First: 4, Words: 1, Depth: 2}}})
	planned(t, with(64, topic("a", 1, 2)), plan.Plan{Reg: 0, Log: 1, Long: 64, Size: 69, Spots: []plan.Spot{{Owners: 65, Seq: 66, First: 67, Words: 1, Depth: 2}}})
	planned(t, with(1, topic("a", 64, 16)), plan.Plan{Reg: 0, Log: 1, Long: 1, Size: 1028, Spots: []plan.Spot{{Owners: 2, Seq: 3, First: 4, Words: 64, Depth: 16}}})
	planned(t, with(3, topic("a", 2, 3), topic("b", 1, 2), topic("c", 5, 4)), plan.Plan{Reg: 0, Log: 1, Long: 3, Size: 38, Spots: []plan.Spot{
		{Owners: 4, Seq: 5, First: 6, Words: 2, Depth: 3}, {Owners: 12, Seq: 13, First: 14, Words: 1, Depth: 2}, {Owners: 16, Seq: 17, First: 18, Words: 5, Depth: 4},
	}})
	planned(t, with(3, topic("c", 5, 4), topic("b", 1, 2), topic("a", 2, 3)), plan.Plan{Reg: 0, Log: 1, Long: 3, Size: 38, Spots: []plan.Spot{
		{Owners: 4, Seq: 5, First: 6, Words: 5, Depth: 4}, {Owners: 26, Seq: 27, First: 28, Words: 1, Depth: 2}, {Owners: 30, Seq: 31, First: 32, Words: 2, Depth: 3},
	}})
}

// P6.1: the greatest one.
func TestTheGreatestPlan(t *testing.T) {
	p := of(t, greatest())
	if p.Reg != 0 || p.Log != 1 || p.Long != 64 || p.Size != 65729 || len(p.Spots) != 64 || p.Size > api.MaxBank {
		t.Fatal(p)
	}
	for i, s := range p.Spots {
		if at := 65 + 1026*i; s != (plan.Spot{Owners: at, Seq: at + 1, First: at + 2, Words: 64, Depth: 16}) {
			t.Errorf("topic %d: %v", i, s)
		}
	}
}

// P6.1
func TestPlansByTheirWords(t *testing.T) {
	for _, c := range rightConfigs() {
		planned(t, c, planOf(c))
	}
}

// P6.1: a plan hangs on what the chapter tells of it alone: not on tasks, tries and names.
func TestTasksTriesAndNames(t *testing.T) {
	want := planOf(many(3))
	for tasks := 1; tasks <= 8; tasks++ {
		for tries := 1; tries <= 16; tries++ {
			c := many(3)
			c.Tasks, c.Tries = tasks, tries
			for i := range c.Topics {
				c.Topics[i].Name = string([]byte{byte('z' - i), byte('0' + tasks)})
			}
			planned(t, c, want)
		}
	}
}

// around are a range's edges, one beyond each, and numbers far off.
func around(least, most int) []int {
	return []int{least, most, (least + most) / 2, least - 1, most + 1, 0, -1, -least, -most, math.MinInt, math.MaxInt, math.MinInt32, math.MaxInt32, most + 1<<8, least + 1<<8, least + 1<<32, -1 << 32}
}

// P6.1: faults that are written out, each of the codes that there are.
func TestFaults(t *testing.T) {
	a, b := topic("a", 1, 2), topic("b", 64, 16)
	right := with(8, a, b)
	turned := func(turn func(c *api.Config)) api.Config {
		c := right
		turn(&c)
		return c
	}
	for _, n := range []int{0, 9, -1, math.MinInt, math.MaxInt} {
		refused(t, turned(func(c *api.Config) { c.Tasks = n }), api.ErrRange)
	}
	for _, n := range []int{0, 17, -1, math.MinInt, math.MaxInt} {
		refused(t, turned(func(c *api.Config) { c.Tries = n }), api.ErrRange)
	}
	for _, n := range []int{0, 65, -1, -8, math.MinInt, math.MaxInt} {
		refused(t, turned(func(c *api.Config) { c.Log = n }), api.ErrRange)
	}
	for _, n := range []int{0, 65, -1, -64, math.MinInt, math.MaxInt} {
		refused(t, with(8, a, topic("b", n, 2)), api.ErrRange)
	}
	for _, n := range []int{0, 1, 17, -1, -16, math.MinInt, math.MaxInt} {
		refused(t, with(8, a, topic("b", 1, n)), api.ErrRange)
	}
	for _, c := range []api.Config{with(8), with(8, []api.Topic{}...), many(65), many(1000), {Tasks: 1}} {
		refused(t, c, api.ErrLong)
	}
	for _, name := range []string{"", "A", "1a", "a b", "a\n", "abcdefghijklmnopq", "\xff"} {
		refused(t, with(8, a, topic(name, 1, 2)), api.ErrName)
	}
	refused(t, with(8, a, a), api.ErrThere)
	refused(t, with(8, a, b, topic("a", 0, 0)), api.ErrThere)
	refused(t, with(8, a, b, b), api.ErrThere)
	refused(t, api.Config{}, api.ErrRange)
	planned(t, right, planOf(right))
}

// P6.1: of a config that has several faults the first one counts; a fault of the last of 64 topics is one, too.
func TestTheFirstFault(t *testing.T) {
	refused(t, api.Config{Tasks: 9, Tries: 17, Log: 65}, api.ErrRange)
	refused(t, api.Config{Tasks: 8, Tries: 17, Log: 65}, api.ErrLong)
	refused(t, with(65, topic("", 1, 2)), api.ErrRange)
	refused(t, with(8, topic("", 0, 0), topic("", 1, 2)), api.ErrName)
	refused(t, with(8, topic("a", 65, 2), topic("a", 1, 2)), api.ErrRange)
	for _, x := range []struct {
		last api.Topic
		code api.Errno
	}{{topic("", 0, 0), api.ErrName}, {topic("t0", 0, 0), api.ErrThere}, {topic("t62", 1, 2), api.ErrThere}, {topic("z", 0, 2), api.ErrRange}, {topic("z", 1, 1), api.ErrRange}} {
		c := many(64)
		c.Topics[63] = x.last
		refused(t, c, x.code)
	}
}

// P6.1: whatever config.Check tells, at the edges of all numbers.
func TestFaultsAreThoseOfCheck(t *testing.T) {
	look := func(c api.Config) {
		t.Helper()
		if f := config.Check(c); f.Code != api.OK {
			refused(t, c, f.Code)
		} else {
			planned(t, c, planOf(c))
		}
	}
	for _, tasks := range around(1, 8) {
		for _, tries := range around(1, 16) {
			for _, log := range around(1, 64) {
				look(api.Config{Tasks: tasks, Tries: tries, Log: log, Topics: []api.Topic{topic("a", 2, 3)}})
			}
		}
	}
	for _, words := range around(1, 64) {
		for _, depth := range around(2, 16) {
			for _, name := range []string{"a", "b", ""} {
				look(with(8, topic("b", 2, 3), topic(name, words, depth)))
				look(with(8, topic(name, words, depth), topic("b", 2, 3)))
			}
		}
	}
	for n := range 70 {
		look(many(n))
	}
}

// R2: nothing that is handed in is written into, nor what stands behind its length.
func TestWhatIsHandedInStays(t *testing.T) {
	for _, all := range []api.Config{many(64), many(70), with(8, topic("a", 1, 2), topic("a", 1, 2), topic("", 0, 0))} {
		for n := range len(all.Topics) + 1 {
			in := slices.Clone(all.Topics)
			c := all
			c.Topics = in[:n]
			plan.Of(c)
			if !slices.Equal(in, all.Topics) {
				t.Errorf("%d topics: %v, not %v", n, in, all.Topics)
			}
		}
	}
	p := of(t, many(5))
	p.Spots = p.Spots[:3]
	for at := -1; at <= p.Size; at++ {
		p.Whose(at)
	}
	if !slices.Equal(p.Spots[:5], planOf(many(5)).Spots) {
		t.Error(p.Spots[:5])
	}
}

// R2, R3: what was answered is the caller's, and what it does with it turns no other answer; a plan goes its own way from its config.
func TestWhatIsAnsweredIsTheCallers(t *testing.T) {
	c := many(64)
	p := of(t, c)
	for range 3 {
		other := of(t, c)
		clear(other.Spots[:cap(other.Spots)])
		planned(t, c, planOf(c))
	}
	clear(c.Topics)
	if !same(p, planOf(many(64))) {
		t.Error(p)
	}
}
