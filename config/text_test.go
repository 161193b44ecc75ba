package config_test

import (
	"fmt"
	"regexp"
	"slices"
	"strconv"
	"strings"
	"testing"

	"aileron/api"
	"aileron/config"
)

// text is the text of a config, whatever Check tells of it.
func text(c api.Config) string {
	s := fmt.Sprintf("tasks %d tries %d log %d\n", c.Tasks, c.Tries, c.Log)
	for _, p := range c.Topics {
		s += fmt.Sprintf("topic %s words %d depth %d\n", p.Name, p.Words, p.Depth)
	}
	return s
}

const aNumeral = "(0|[1-9][0-9]{0,8})"

var (
	firstLine = regexp.MustCompile("^tasks " + aNumeral + " tries " + aNumeral + " log " + aNumeral + "\n$")
	topicLine = regexp.MustCompile("^topic ([^ ]*) words " + aNumeral + " depth " + aNumeral + "\n$")
)

// parsed is what Parse has to answer, by patterns of lines.
func parsed(s string) (api.Config, int, api.Errno) {
	if len(s) > 65536 {
		return api.Config{}, 0, api.ErrLong
	}
	number := func(s string) int { n, _ := strconv.Atoi(s); return n }
	var c api.Config
	for i, one := range strings.SplitAfter(s, "\n") {
		if i > 0 && one == "" { // behind the last line feed there is no line
			break
		}
		if i == 0 {
			m := firstLine.FindStringSubmatch(one)
			if m == nil {
				return api.Config{}, 1, api.ErrForm
			}
			c = api.Config{Tasks: number(m[1]), Tries: number(m[2]), Log: number(m[3])}
			continue
		}
		m := topicLine.FindStringSubmatch(one)
		if m == nil {
			return api.Config{}, i + 1, api.ErrForm
		}
		c.Topics = append(c.Topics, topic(m[1], number(m[2]), number(m[3])))
	}
	if f := checked(c); f.Code != api.OK {
		return api.Config{}, max(1, f.Topic+2), f.Code
	}
	return c, 0, api.OK
}

// alike is whether two configs tell the same, field by field.
func alike(a, b api.Config) bool {
	return a.Tasks == b.Tasks && a.Tries == b.Tries && a.Log == b.Log && slices.Equal(a.Topics, b.Topics)
}

// parse looks at what Parse answers to a text.
func parse(t *testing.T, s string, c api.Config, line int, code api.Errno) {
	t.Helper()
	if got, n, e := config.Parse(s); !alike(got, c) || n != line || e != code {
		t.Errorf("Parse(%.200q): %s, %d, %v, not %s, %d, %v", s, short(got), n, e, short(c), line, code)
	}
}

// unparsed looks at a text that is refused.
func unparsed(t *testing.T, s string, line int, code api.Errno) {
	t.Helper()
	parse(t, s, api.Config{}, line, code)
}

// asModel looks at a text by the patterns above.
func asModel(t *testing.T, s string) {
	t.Helper()
	c, n, e := parsed(s)
	parse(t, s, c, n, e)
}

// The chapter's example.
func TestExample(t *testing.T) {
	s := "tasks 2 tries 3 log 8\ntopic pose words 6 depth 4\n"
	c := api.Config{Tasks: 2, Tries: 3, Log: 8, Topics: []api.Topic{{Name: "pose", Words: 6, Depth: 4}}}
	fault(t, c, config.Fault{})
	parse(t, s, c, 0, api.OK)
	if got, e := config.Print(c); got != s || e != api.OK {
		t.Errorf("%q, %v", got, e)
	}
	found(t, c, "pose", 0)
}

// P5.3, P5.4
func TestPrintAndParse(t *testing.T) {
	for _, c := range rightConfigs() {
		if s, e := config.Print(c); s != text(c) || e != api.OK {
			t.Errorf("Print(%s): %.200q, %v", short(c), s, e)
		}
		parse(t, text(c), c, 0, api.OK)
	}
}

// P5.3: numbers and names stand where they have to, and each line ends.
func TestTextsWrittenOut(t *testing.T) {
	for s, c := range map[string]api.Config{
		"tasks 1 tries 16 log 64\ntopic a words 64 depth 2\n":                                                {Tasks: 1, Tries: 16, Log: 64, Topics: []api.Topic{topic("a", 64, 2)}},
		"tasks 8 tries 1 log 10\ntopic z9 words 1 depth 16\ntopic abcdefghijklmnop words 33 depth 3\n":       {Tasks: 8, Tries: 1, Log: 10, Topics: []api.Topic{topic("z9", 1, 16), topic("abcdefghijklmnop", 33, 3)}},
		"tasks 2 tries 3 log 4\ntopic words words 5 depth 6\ntopic topic words 7 depth 8\n":                  {Tasks: 2, Tries: 3, Log: 4, Topics: []api.Topic{topic("words", 5, 6), topic("topic", 7, 8)}},
		"tasks 2 tries 3 log 8\ntopic b words 1 depth 2\ntopic a words 1 depth 2\ntopic c words 1 depth 2\n": with(topic("b", 1, 2), topic("a", 1, 2), topic("c", 1, 2)),
	} {
		if got, e := config.Print(c); got != s || e != api.OK {
			t.Errorf("Print(%v): %q, %v", c, got, e)
		}
		parse(t, s, c, 0, api.OK)
	}
}

const (
	first = "tasks 2 tries 3 log 8\n"
	one   = "topic a words 1 depth 2\n"
	other = "topic b words 3 depth 4\n"
)

// P5.4: lines that are not as they have to be, as the first one.
func TestFirstLinesThatAreWrong(t *testing.T) {
	for _, s := range []string{
		"", " ", "tasks", "tasks 2 tries 3 log", "tasks 2 tries 3 log ", "tasks 2 tries 3", "tasks 2 tries 3 log 8 ", "tasks 2 tries 3 log 8 9", "tasks 2 tries 3 log 8 more 9", " tasks 2 tries 3 log 8", "tasks  2 tries 3 log 8", "tasks 2  tries 3 log 8", "tasks 2 tries  3 log 8", "tasks 2 tries 3 log  8", "tasks 2 tries 3 log 8  ",
		"task 2 tries 3 log 8", "tasks 2 try 3 log 8", "tasks 2 tries 3 logs 8", "Tasks 2 tries 3 log 8", "tries 3 tasks 2 log 8", "tasks 2 log 8 tries 3", "tasks 2 tries 3 depth 8", "tasks 2 words 3 log 8", "topic 2 tries 3 log 8", "topic a words 1 depth 2", "2 tries 3 log 8", "2 tasks 3 tries 8 log", " 2 tries 3 log 8", "tasks 2  3 log 8", "tasks 2 tries 3  8",
		"tasks  tries 3 log 8", "tasks 2 tries  log 8", "tasks a tries 3 log 8", "tasks 2 tries a log 8", "tasks 2 tries 3 log a", "tasks\t2 tries 3 log 8", "tasks 2 tries 3 log\u00a08", "tasks 2 tries 3 log 8\r", "\ufefftasks 2 tries 3 log 8", "tasks 2 tries 3 log 8\x00",
	} {
		unparsed(t, s, 1, api.ErrForm)
		unparsed(t, s+"\n", 1, api.ErrForm)
		unparsed(t, s+"\n"+one, 1, api.ErrForm)
		unparsed(t, s+"\n"+first+one, 1, api.ErrForm)
		unparsed(t, s+"\nbad\n", 1, api.ErrForm)
	}
	unparsed(t, strings.TrimSuffix(first, "\n"), 1, api.ErrForm)
	unparsed(t, one+first, 1, api.ErrForm)
	unparsed(t, "\n"+first+one, 1, api.ErrForm)
}

// P5.4: lines that are not as they have to be, as a topic's.
func TestTopicLinesThatAreWrong(t *testing.T) {
	for _, s := range []string{
		"", " ", "topic", "topic a", "topic a words", "topic a words 1", "topic a words 1 depth", "topic a words 1 depth ", "topic a words 1 depth 2 ", "topic a words 1 depth 2 3", "topic a words 1 depth 2 more 3", "topic a b words 1 depth 2", " topic a words 1 depth 2", "topic  a words 1 depth 2", "topic a  words 1 depth 2", "topic a words  1 depth 2", "topic a words 1  depth 2", "topic a words 1 depth  2",
		"topics a words 1 depth 2", "Topic a words 1 depth 2", "topic a word 1 depth 2", "topic a words 1 deep 2", "topic a depth 2 words 1", "topic words 1 depth 2", "words 1 topic a depth 2", "tasks 2 tries 3 log 8", "topic a tries 1 depth 2", "topic a words 1 log 2", "a words 1 depth 2", " a words 1 depth 2", "topic a  1 depth 2", "topic a words 1  2",
		"topic a words  depth 2", "topic a words b depth 2", "topic a words 1 depth b", "topic\ta words 1 depth 2", "topic a words 1 depth 2\r", "topic a words 1 depth\v2", "topic a words 1 depth 2\x00",
	} {
		for i, ahead := range []string{first, first + one, first + one + other, first + one + one, "tasks 9 tries 0 log 99\n", first + "topic  words 0 depth 999999999\n", first + strings.Repeat(one, 70)} {
			n := strings.Count(ahead, "\n") + 1
			if s != "" { // no bytes behind a line feed are no line
				unparsed(t, ahead+s, n, api.ErrForm)
			}
			unparsed(t, ahead+s+"\n", n, api.ErrForm)
			unparsed(t, ahead+s+"\n"+one, n, api.ErrForm)
			unparsed(t, ahead+s+"\n\n"+strings.Repeat("bad\n", i), n, api.ErrForm)
		}
	}
}

// P5.4: no line feed ends the last line.
func TestWithoutTheLastLineFeed(t *testing.T) {
	for _, c := range rightConfigs() {
		s := text(c)
		unparsed(t, s[:len(s)-1], 1+len(c.Topics), api.ErrForm)
		unparsed(t, s+"\n", 2+len(c.Topics), api.ErrForm)
		unparsed(t, s+" ", 2+len(c.Topics), api.ErrForm)
		unparsed(t, "\n"+s, 1, api.ErrForm)
	}
	unparsed(t, "", 1, api.ErrForm)
	unparsed(t, "\n", 1, api.ErrForm)
	unparsed(t, strings.Repeat("\n", 65536), 1, api.ErrForm)
}

// P5.4: each beginning of a text.
func TestEachBeginning(t *testing.T) {
	s := text(with(topic("pose", 6, 4), topic("goal2", 64, 16)))
	for n := range len(s) {
		asModel(t, s[:n])
		asModel(t, s[n:])
	}
	unparsed(t, first, 1, api.ErrLong)
	parse(t, first+one, with(topic("a", 1, 2)), 0, api.OK)
}

// notNumerals are words that are no numerals.
var notNumerals = []string{
	"", "00", "01", "02", "08", "000000000", "012345678", "1234567890", "1000000000", "9999999999", "0000000001", "4294967298", "18446744073709551618", strings.Repeat("9", 100), strings.Repeat("0", 100) + "2",
	"-1", "-0", "+1", "+2", "-2", "2-", "2.0", "2.", ".2", "2e0", "0x2", "0b1", "0o2", "1_0", "2a", "a2", "a", "\u0662", "\uff12", "2\u0662", "\xff", "2\xff", "\x002", "2\x00", "2\t", "\t2", "2\r", "/", ":", "2/", "2:", "/2", ":2", "two", "12345678a", "99999999\xff", "99999999-",
}

// P5.4: at each place of a numeral a word that is none.
func TestWordsThatAreNoNumerals(t *testing.T) {
	for _, w := range notNumerals {
		for _, s := range []string{"tasks W tries 3 log 8\n", "tasks 2 tries W log 8\n", "tasks 2 tries 3 log W\n", "tasks W tries W log W\n"} {
			s = strings.ReplaceAll(s, "W", w)
			unparsed(t, s, 1, api.ErrForm)
			unparsed(t, s+one, 1, api.ErrForm)
		}
		for _, s := range []string{"topic a words W depth 2\n", "topic a words 1 depth W\n", "topic a words W depth W\n"} {
			s = strings.ReplaceAll(s, "W", w)
			unparsed(t, first+s, 2, api.ErrForm)
			unparsed(t, first+s+other, 2, api.ErrForm)
			unparsed(t, first+other+s, 3, api.ErrForm)
		}
	}
}

// P5.4: numerals that are right, of up to nine digits: their numbers are told, or are beyond their range.
func TestNumerals(t *testing.T) {
	for _, w := range []string{"0", "1", "2", "3", "4", "5", "6", "7", "8", "9", "10", "15", "16", "17", "20", "63", "64", "65", "99", "100", "256", "257", "258", "65537", "65538", "12345678", "99999999", "100000000", "123456789", "999999999"} {
		for _, s := range []string{"tasks W tries 3 log 8\n" + one, "tasks 2 tries W log 8\n" + one, "tasks 2 tries 3 log W\n" + one, "tasks W tries W log W\n", first + "topic a words W depth 2\n", first + "topic a words 1 depth W\n", first + one + "topic b words W depth W\n"} {
			asModel(t, strings.ReplaceAll(s, "W", w))
		}
	}
	for n := range 300 {
		for _, s := range []string{"tasks W tries 3 log 8\n" + one, "tasks 2 tries W log 8\n" + one, "tasks 2 tries 3 log W\n" + one, first + "topic a words W depth 2\n", first + "topic a words 1 depth W\n"} {
			asModel(t, strings.ReplaceAll(s, "W", strconv.Itoa(n)))
		}
	}
	unparsed(t, "tasks 999999999 tries 3 log 8\n"+one, 1, api.ErrRange)
	unparsed(t, first+"topic a words 999999999 depth 2\n", 2, api.ErrRange)
	unparsed(t, first+"topic a words 1 depth 999999999\n", 2, api.ErrRange)
	unparsed(t, first+"topic a words 1 depth 1000000000\n", 2, api.ErrForm)
}

// P5.4: what Check tells, and the line.
func TestTextsOfFaults(t *testing.T) {
	for _, x := range []struct {
		s    string
		line int
		code api.Errno
	}{
		{first, 1, api.ErrLong}, {"tasks 0 tries 3 log 8\n", 1, api.ErrRange}, {"tasks 9 tries 3 log 8\n", 1, api.ErrRange}, {"tasks 8 tries 0 log 8\n", 1, api.ErrLong}, {"tasks 0 tries 3 log 8\n" + one, 1, api.ErrRange}, {"tasks 2 tries 17 log 8\n" + one, 1, api.ErrRange}, {"tasks 2 tries 3 log 65\n" + one, 1, api.ErrRange}, {"tasks 2 tries 3 log 0\n" + one, 1, api.ErrRange},
		{first + "topic  words 1 depth 2\n", 2, api.ErrName}, {first + "topic 1a words 1 depth 2\n", 2, api.ErrName}, {first + "topic A words 1 depth 2\n", 2, api.ErrName}, {first + "topic a\t words 1 depth 2\n", 2, api.ErrName}, {first + "topic \xff words 1 depth 2\n", 2, api.ErrName}, {first + "topic \x00 words 0 depth 0\n", 2, api.ErrName}, {first + "topic \u00e4 words 1 depth 2\n", 2, api.ErrName}, {first + "topic abcdefghijklmnopq words 1 depth 2\n", 2, api.ErrName}, {first + "topic \r words 1 depth 2\n", 2, api.ErrName},
		{first + one + one, 3, api.ErrThere}, {first + one + other + one, 4, api.ErrThere}, {first + one + "topic a words 0 depth 0\n", 3, api.ErrThere}, {first + "topic a words 0 depth 2\n" + one, 2, api.ErrRange}, {first + "topic a words 65 depth 2\n", 2, api.ErrRange}, {first + "topic a words 1 depth 1\n", 2, api.ErrRange}, {first + "topic a words 1 depth 17\n", 2, api.ErrRange}, {first + one + "topic b words 1 depth 0\n", 3, api.ErrRange},
		{"tasks 9 tries 3 log 8\ntopic  words 1 depth 2\n", 1, api.ErrRange}, {first + "topic  words 1 depth 2\ntopic B words 1 depth 2\n", 2, api.ErrName}, {text(many(65)), 1, api.ErrLong}, {text(many(1000)), 1, api.ErrLong}, {first + strings.Repeat(one, 65), 1, api.ErrLong}, {first + strings.Repeat(one, 64), 3, api.ErrThere}, {first + strings.Repeat("topic  words 0 depth 0\n", 65), 1, api.ErrLong},
		// Behind what is not as it has to be, and be it in the last line, no fault is told.
		{"tasks 9 tries 3 log 8\ntopic a words 1 depth 02\n", 2, api.ErrForm}, {first + one + one + "bad\n", 4, api.ErrForm}, {first + strings.Repeat(one, 65) + "bad\n", 67, api.ErrForm}, {first + "topic  words 1 depth 2\n" + "\n", 3, api.ErrForm}, {"tasks 9 tries 3 log 8\n" + strings.TrimSuffix(one, "\n"), 2, api.ErrForm},
	} {
		unparsed(t, x.s, x.line, x.code)
	}
	for i := range 64 {
		c := many(64)
		c.Topics[i].Depth = 17
		unparsed(t, text(c), i+2, api.ErrRange)
		c.Topics[i].Name = "A"
		unparsed(t, text(c), i+2, api.ErrName)
	}
}

// P5.4: texts at the greatest length, and one beyond.
func TestLongTexts(t *testing.T) {
	long := func(n int) string { // of n bytes in all, with one long word
		ahead, behind := first+"topic ", " words 1 depth 2\n"
		return ahead + strings.Repeat("a", n-len(ahead)-len(behind)) + behind
	}
	unparsed(t, long(65535), 2, api.ErrName)
	unparsed(t, long(65536), 2, api.ErrName)
	unparsed(t, long(65537), 0, api.ErrLong)
	for _, s := range []string{first, one, "\n", " ", "a", "0", "\xff", "tasks 2 "} {
		for _, n := range []int{65535, 65536, 65537, 65538, 131072, 1000000} {
			asModel(t, strings.Repeat(s, n/len(s)+1)[:n])
			asModel(t, (first + strings.Repeat(s, n/len(s)+1))[:n])
		}
	}
	full := first + strings.Repeat(one, 2729)
	full += strings.Repeat(" ", 65536-len(full))
	unparsed(t, full, 2731, api.ErrForm)
	unparsed(t, full+"\n", 0, api.ErrLong)
	unparsed(t, text(many(64))+strings.Repeat("\n", 65537), 0, api.ErrLong)
}

// P5.4: each byte of a text turned, left out, or with another one ahead of it.
func TestEachByteOfAText(t *testing.T) {
	s := text(with(topic("pose", 6, 4), topic("p2", 10, 16), topic("c", 1, 2)))
	for i := range len(s) {
		asModel(t, s[:i]+s[i+1:])
		for b := range 256 {
			c := string([]byte{byte(b)})
			asModel(t, s[:i]+c+s[i+1:])
			asModel(t, s[:i]+c+s[i:])
		}
	}
}

// P5.4: each word of a text left out, told twice, and each two changed.
func TestEachWordOfAText(t *testing.T) {
	words := regexp.MustCompile("[^ \n]+|[ \n]").FindAllString(text(with(topic("pose", 6, 4), topic("p2", 10, 16))), -1)
	for i := range words {
		asModel(t, strings.Join(slices.Delete(slices.Clone(words), i, i+1), ""))
		asModel(t, strings.Join(slices.Insert(slices.Clone(words), i, words[i]), ""))
		asModel(t, strings.Join(slices.Insert(slices.Clone(words), i, words[i], " "), ""))
		for j := range i {
			l := slices.Clone(words)
			l[i], l[j] = l[j], l[i]
			asModel(t, strings.Join(l, ""))
		}
	}
}
