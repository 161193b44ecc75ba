package codec_test

import (
	"slices"
	"strconv"
	"strings"
	"testing"

	"aileron/api"
	"aileron/codec"
)

// text is the text of right parts.
func text(l []codec.Part) string {
	words := map[int]string{codec.Flag: "flag", codec.Count: "count", codec.Whole: "whole", codec.Point: "point"}
	all := make([]string, len(l))
	for i, p := range l {
		all[i] = words[p.Kind]
		if p.Kind == codec.Count || p.Kind == codec.Whole {
			all[i] += strconv.Itoa(p.Len)
		}
	}
	return strings.Join(all, " ")
}

// P4.4
func TestPrintAndParse(t *testing.T) {
	for _, l := range someRows() {
		s, e := codec.Print(l)
		if e != api.OK || s != text(l) {
			t.Errorf("Print(%v): %q, %v", l, s, e)
		}
		if got, e := codec.Parse(text(l)); e != api.OK || !slices.Equal(got, l) {
			t.Errorf("Parse(%q): %v, %v", text(l), got, e)
		}
	}
}

// P4.4: texts that are written out.
func TestTextsWrittenOut(t *testing.T) {
	for _, c := range []struct {
		s string
		l []codec.Part
	}{
		{"flag", row(flag)}, {"point", row(point)}, {"count1", row(count(1))}, {"count63", row(count(63))}, {"whole2", row(whole(2))}, {"whole64", row(whole(64))},
		{"flag count7 point", row(flag, count(7), point)},
		{"count60 flag whole3 whole4 point flag", row(count(60), flag, whole(3), whole(4), point, flag)},
	} {
		if l, e := codec.Parse(c.s); e != api.OK || !slices.Equal(l, c.l) {
			t.Errorf("Parse(%q): %v, %v", c.s, l, e)
		}
		if s, e := codec.Print(c.l); e != api.OK || s != c.s {
			t.Errorf("Print(%v): %q, %v", c.l, s, e)
		}
	}
}

// unparsed looks at a text that is refused.
func unparsed(t *testing.T, s string, want api.Errno) {
	t.Helper()
	if l, e := codec.Parse(s); len(l) != 0 || e != want {
		t.Errorf("Parse(%.60q): %v, %v, not %v", s, l, e, want)
	}
}

// noNames are words that do not begin with a kind's word.
var noNames = []string{
	"", "f", "fla", "flags", "flagg", "flagcount", "flagcount5", "Flag", "FLAG", "fLag", "flaG", "coun", "coun5", "counts", "counts5", "counta5", "countx", "countx5", "Count5", "COUNT5",
	"wholes", "whol", "whol5", "wholex5", "Whole5", "pointer", "poin", "Point", "points", "bool", "a", "z", "x5", "5", "64", "0", "5count", "1flag", "-flag", "+count5", "_flag", ",flag",
	"\tflag", "\nflag", "\x00flag", "\u00a0flag", "fla\u017f", "\ufb02ag", "fl\u00e4g", "fl\u0430g", "\xffflag", "`flag", "{flag", "kind",
}

// behindOne is what may not stand behind the word of a kind of one Len.
var behindOne = []string{
	"0", "1", "01", "64", "5", "32", "1000", "-1", "+1", ".", "\n", "\t", "\x00", "\u00e4", "\u00a0", "\xff", "`", "{", "A", "Z", "@", "[", "5flag",
}

// behindMany is what may not stand behind the word of a kind of several Lens.
var behindMany = []string{
	"", "0", "00", "000", "01", "05", "005", "0005", "064", "1000", "5000", "9999", "12345", "4294967297", "18446744073709551617", strings.Repeat("9", 100), strings.Repeat("0", 100) + "5",
	"5x", "5x5", "55x", "5flag", "-5", "+5", "5-", "5.", "5.0", "0x5", "1_0", "1e1", "5\n", "\n5", "5\t", "\t5", "5\x00", "\x005", "5\u00a0", "\u0665", "\uff15", "5\u0665", "\xff", "5\xff",
	"_", "`", "{", "/", ":", "5/", "5:", "/5", ":5", "X", "X5", "5X", "12X",
}

// wrongWords are words that are wrong by themselves, with what Parse has to say to them.
func wrongWords() map[string]api.Errno {
	m := map[string]api.Errno{}
	for _, s := range noNames {
		m[s] = api.ErrName
	}
	for _, s := range behindOne {
		m["flag"+s], m["point"+s] = api.ErrForm, api.ErrForm
	}
	for _, s := range behindMany {
		m["count"+s], m["whole"+s] = api.ErrForm, api.ErrForm
	}
	return m
}

// P4.4
func TestWordsThatAreWrong(t *testing.T) {
	for s, want := range wrongWords() {
		unparsed(t, s, want)
		unparsed(t, "flag "+s, want)
		unparsed(t, s+" flag", want)
		unparsed(t, "count5 "+s+" point", want)
		unparsed(t, strings.Repeat("point ", 64)+s, want)
		unparsed(t, strings.Repeat("flag ", 256)+s, want)
		unparsed(t, strings.Repeat("flag ", 3000)+s, want)
		// What Check has to say comes behind all words.
		unparsed(t, "whole1 "+s, want)
		unparsed(t, "count999 "+s, want)
		unparsed(t, s+" count64", want)
	}
}

// P4.4: of two words that are wrong the first one is told.
func TestTheFirstWrongWord(t *testing.T) {
	for _, c := range []struct {
		s string
		e api.Errno
	}{
		{"flag1 bad", api.ErrForm}, {"bad flag1", api.ErrName}, {"count05 ", api.ErrForm}, {" count05", api.ErrName}, {"flag count1000 Flag", api.ErrForm}, {"flag Flag count1000", api.ErrName},
		{"count64 flag1 bad", api.ErrForm}, {"count64 bad flag1", api.ErrName}, {"point64  point", api.ErrForm}, {"point  point64", api.ErrName},
	} {
		unparsed(t, c.s, c.e)
	}
}

// P4.4: a blank too many makes a word without bytes.
func TestBlanksTooMany(t *testing.T) {
	for _, l := range someRows()[:30] {
		s := text(l)
		for _, bad := range []string{" " + s, s + " ", "  " + s, s + "  ", " " + s + " ", s + "  flag", strings.Replace(s, " ", "  ", 1) + " "} {
			unparsed(t, bad, api.ErrName)
		}
	}
	for _, s := range []string{"", " ", "  ", "flag  point", "flag   point", strings.Repeat(" ", 1000), strings.Repeat("flag ", 300)} {
		unparsed(t, s, api.ErrName)
	}
}

// P4.4: nothing but byte 32 is a blank.
func TestOtherBlanks(t *testing.T) {
	for _, between := range []string{"\t", "\n", "\r\n", "\x00", "\x1f", "!", ",", "\u00a0", "\u2003"} {
		unparsed(t, "flag"+between+"flag", api.ErrForm)
		unparsed(t, "count5"+between+"flag", api.ErrForm)
		unparsed(t, "point"+between, api.ErrForm)
	}
}

// P4.4
func TestTextsOfWrongParts(t *testing.T) {
	for _, c := range []struct {
		s string
		e api.Errno
	}{
		{"count64", api.ErrRange}, {"count65", api.ErrRange}, {"count100", api.ErrRange}, {"count999", api.ErrRange},
		{"whole1", api.ErrRange}, {"whole65", api.ErrRange}, {"whole100", api.ErrRange}, {"whole999", api.ErrRange}, {"count256", api.ErrRange}, {"count257", api.ErrRange},
		{"flag count64", api.ErrRange}, {"whole1 flag", api.ErrRange}, {"count63 whole64 count64", api.ErrRange},
		{text(many(flag, 257)), api.ErrLong}, {text(many(flag, 258)), api.ErrLong}, {text(many(flag, 50000)), api.ErrLong}, {text(many(point, 65)), api.ErrLong}, {text(many(point, 257)), api.ErrLong},
		{text(many(whole(1), 257)), api.ErrLong}, {text(many(whole(1), 256)), api.ErrRange}, {"whole1 " + text(many(flag, 256)), api.ErrLong}, {text(many(flag, 256)) + " count64", api.ErrLong},
		{text(many(point, 64)) + " flag", api.ErrLong}, {text(many(point, 64)) + " count64", api.ErrRange}, {text(many(point, 65)) + " count64", api.ErrLong}, {"count64 " + text(many(point, 65)), api.ErrRange},
	} {
		unparsed(t, c.s, c.e)
	}
}

// P4.4: each Len that three digits tell, with and without a 0 ahead.
func TestEachLenInTexts(t *testing.T) {
	for n := range 1200 {
		for kind, word := range map[int]string{codec.Count: "count", codec.Whole: "whole"} {
			s := word + strconv.Itoa(n)
			unparsed(t, word+"0"+strconv.Itoa(n), api.ErrForm)
			switch {
			case n == 0 || n > 999:
				unparsed(t, s, api.ErrForm)
			case n < lenOf[kind][0] || n > lenOf[kind][1]:
				unparsed(t, s, api.ErrRange)
			default:
				if l, e := codec.Parse(s); e != api.OK || !slices.Equal(l, row(codec.Part{Kind: kind, Len: n})) {
					t.Errorf("Parse(%q): %v, %v", s, l, e)
				}
			}
		}
	}
}

// P4.4: each byte, ahead of a kind's word, right behind it, and behind a Len.
func TestEachByteInTexts(t *testing.T) {
	for b := range 256 {
		c := string([]byte{byte(b)})
		letter, digit := b >= 'a' && b <= 'z', b >= '0' && b <= '9'
		unparsed(t, c+"flag", api.ErrName)
		unparsed(t, c+"count5", api.ErrName)
		one, many, after := api.ErrForm, api.ErrForm, api.ErrForm
		if letter {
			one, many = api.ErrName, api.ErrName
		}
		if b == ' ' { // then there is a word without bytes
			one, after = api.ErrName, api.ErrName
		}
		unparsed(t, "flag"+c, one)
		unparsed(t, "point"+c, one)
		if !digit { // those have a test of their own
			unparsed(t, "count"+c, many)
			unparsed(t, "whole"+c, many)
			unparsed(t, "count5"+c, after)
			unparsed(t, "whole5"+c, after)
		}
	}
}
