package gauss_test

import (
	"fmt"
	"regexp"
	"slices"
	"strings"
	"testing"

	"aileron/api"
	"aileron/gauss"
)

// refused tells whether Parse answers an error, and no number.
func refused(t *testing.T, s string, want api.Errno) {
	t.Helper()
	if z, e := gauss.Parse(s); !is(z, 0) || e != want {
		t.Errorf("Parse of %d bytes, %.60q: %v, %v, not %v", len(s), s, z, e, want)
	}
}

// P3.5
func TestPrintAndParse(t *testing.T) {
	for _, z := range slices.Concat(someNumbers(), square(20), scattered(2000), zeros()) {
		re, im := ints(z)
		want := fmt.Sprintf("%d%+di", re, im)
		if s, e := gauss.Print(z); s != want || e != api.OK {
			t.Errorf("Print(%v): %q, %v", z, s, e)
		}
		if x, e := gauss.Parse(want); !is(x, number(re, im)) || e != api.OK {
			t.Errorf("Parse(%q): %v, %v", want, x, e)
		}
	}
}

// P3.5
func TestSomeTexts(t *testing.T) {
	for s, z := range map[string]complex128{
		"0+0i": 0, "1+0i": 1, "-1+0i": -1, "0+1i": 1i, "0-1i": -1i, "3-4i": 3 - 4i, "-3-4i": -3 - 4i, "10+20i": 10 + 20i, "-10-9i": -10 - 9i,
		"1048575-1048575i": last - last*1i, "-1048575+1048575i": -last + last*1i, "100000+999999i": 100000 + 999999i,
	} {
		if x, e := gauss.Parse(s); !is(x, z) || e != api.OK {
			t.Errorf("Parse(%q): %v, %v", s, x, e)
		}
		if got, e := gauss.Print(z); got != s || e != api.OK {
			t.Errorf("Print(%v): %q, %v", z, got, e)
		}
	}
	for _, zero := range zeros() {
		if s, e := gauss.Print(zero); s != "0+0i" || e != api.OK {
			t.Errorf("Print(%v): %q, %v", zero, s, e)
		}
	}
}

// P3.5
func TestTextsThatAreNone(t *testing.T) {
	for _, s := range []string{
		"", "i", "+", "-", "+i", "-i", "ii", "+-i", "0", "3", "3i", "-3i", "+3i", "3+4", "3-4", "-3-4", "3+i", "3-i", "3+4ii", "3i+4i", "3i+4",
		"-0+0i", "-0+1i", "-0-1i", "0-0i", "1-0i", "-1-0i", "+0+0i", "+1+1i", "+1-1i", "--1+1i", "-+1+1i", "+-1+1i", "1++1i", "1+-1i", "1-+1i", "1--1i", "1+1+1i", "1-1-1i", "-+1i", "--1i", "-1+i",
		"00+0i", "01+1i", "-01+1i", "1+01i", "1-01i", "1+00i", "0+00i", "1-00i", "007+1i",
		" 1+1i", "1+1i ", "1 +1i", "1+ 1i", "1+1 i", "1+1i\n", "\t1+1i", "1+1i\x00", "\x001+1i", "1\x00+1i",
		"1+1I", "1+1j", "(1+1i)", "1+1*i", "i1+1", "1i+1", "1+i1", "1.0+1i", "1+1.0i", "1.+1i", ".5+1i", "1e3+0i", "0x1+0i", "0+0x1i", "0b1+0i", "1_0+0i", "1,0+0i", "1'0+0i",
		"a+1i", "1+ai", "1a+1i", "1+1ai", "/+1i", ":+1i", "1+/i", "1+:i", "1:+1i", "1/+1i", "NaN+0i", "Inf+0i", "0+Infi", "0+infi", "-Inf+0i",
		"\xff+1i", "1+\xffi", "1+1\xffi", "1+1i\xff", "１+1i", "1+１i", "1＋1i", "1−1i", "1+1ｉ", "٣+1i", "1+1ı",
	} {
		refused(t, s, api.ErrForm)
	}
}

// P3.5: whole, but not right, in either part or both.
func TestTextsOfWrongNumbers(t *testing.T) {
	for _, digits := range []string{
		"1048576", "1048577", "1048580", "2000000", "9999999", "10485750", "99999999", "2147483648", "4294967296", "4294967299",
		"9223372036854775807", "9223372036854775808", "18446744073709551615", "18446744073709551616", "18446744073709551619",
		"340282366920938463463374607431768211456", "1" + strings.Repeat("0", 308), "1" + strings.Repeat("0", 309), strings.Repeat("9", 400),
		strings.Repeat("1234567890", 10000),
	} {
		for _, s := range []string{
			digits + "+0i", "-" + digits + "+0i", "0+" + digits + "i", "0-" + digits + "i",
			digits + "-3i", "7+" + digits + "i", digits + "+" + digits + "i", "-" + digits + "-" + digits + "i",
		} {
			refused(t, s, api.ErrRange)
		}
	}
}

// P3.5: how a text is written is asked first.
func TestFormComesAheadOfRange(t *testing.T) {
	for _, s := range []string{
		"1048576", "1048576+0", "1048576i", "+1048576+0i", "01048576+0i", "1048576+01i", "1048576-0i", "-0+1048576i", "-0-1048576i", "00-99999999999999999999i",
		"1048576+i", "1048576++1i", "1048576+1i ", " 1048576+1i", "99999999999999999999", "99999999999999999999+99999999999999999999", "99999999999999999999+099999999999999999999i", "0+1048576ii",
	} {
		refused(t, s, api.ErrForm)
	}
}

// P3.5: very long texts end, too.
func TestVeryLongTexts(t *testing.T) {
	const n = 1 << 20
	nines, noughts := strings.Repeat("9", n), strings.Repeat("0", n)
	for _, s := range []string{nines + "+0i", "-" + nines + "+0i", "0-" + nines + "i", "1" + noughts + "-" + nines + "i", nines + "+" + nines + "i"} {
		refused(t, s, api.ErrRange)
	}
	for _, s := range []string{
		nines, nines + "i", noughts + "+0i", "0+" + noughts + "i", noughts + "1+0i", "0-" + noughts + "i", "-" + noughts + "+0i", nines + "+" + noughts + "i", nines + "x+0i", "0+" + nines + "x" + "i", nines + "+0i ",
		strings.Repeat("-", n), strings.Repeat("+", n) + "i", strings.Repeat("i", n), strings.Repeat("1+1i", n), strings.Repeat("-", n) + "1+1i", "1+1" + strings.Repeat("i", n), strings.Repeat(" ", n) + "1+1i",
	} {
		refused(t, s, api.ErrForm)
	}
}

// P3.5: of all short texts of some bytes, just those are parsed that a pattern has, and they are printed again.
func TestAllShortTexts(t *testing.T) {
	text := regexp.MustCompile(`^(0|-?[1-9][0-9]*)(\+(0|[1-9][0-9]*)|-[1-9][0-9]*)i$`)
	parsed := 0
	var look func(s string, more int)
	look = func(s string, more int) {
		z, e := gauss.Parse(s)
		back, _ := gauss.Print(z)
		switch {
		case !text.MatchString(s):
			if !is(z, 0) || e != api.ErrForm {
				t.Errorf("Parse(%q): %v, %v", s, z, e)
			}
		case e != api.OK || back != s:
			t.Errorf("Parse(%q): %v, %v, and it is printed as %q", s, z, e, back)
		default:
			parsed++
		}
		if more == 0 {
			return
		}
		for _, b := range []string{"0", "1", "9", "+", "-", "i", " "} {
			look(s+b, more-1)
		}
	}
	look("", 6)
	if parsed < 100 {
		t.Errorf("only %d texts were parsed", parsed)
	}
}
