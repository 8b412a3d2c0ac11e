package stamp

import (
	"strings"
	"testing"

	"sluice/api"
)

func TestTextAndParseOfTimesThatFit(t *testing.T) { // P1.6, P1.7
	for _, c := range []struct {
		t     api.Time
		arity int
		s     string
	}{
		{at(5, 0, 0), 1, "5"},
		{at(5, 0, 12), 3, "5.0.12"},
		{at(0, 0, 0), 1, "0"},
		{at(0, 0, 0), 2, "0.0"},
		{at(0, 0, 0), 3, "0.0.0"},
		{at(10, 100, 0), 2, "10.100"},
		{at(most, 0, 0), 1, "18446744073709551615"},
		{at(most, most, most), 3, "18446744073709551615.18446744073709551615.18446744073709551615"},
	} {
		if s, e := Text(c.t, c.arity); s != c.s || e != api.OK {
			t.Errorf("Text(%v, %d) = %q, %d, want %q", c.t, c.arity, s, e, c.s)
		}
		if u, e := Parse(c.s, c.arity); u != c.t || e != api.OK {
			t.Errorf("Parse(%q, %d) = %v, %d, want %v", c.s, c.arity, u, e, c.t)
		}
	}
}

func TestTextThereAndBack(t *testing.T) { // P1.6, P1.7
	for _, u := range grid(0, 7, 10, most) {
		for arity := -1; arity <= api.MaxArity+2; arity++ {
			s, e := Text(u, arity)
			if e != Fits(u, arity) || (e != api.OK && s != "") {
				t.Errorf("Text(%v, %d) = %q, %d", u, arity, s, e)
			}
			if e != api.OK {
				continue
			}
			if v, e := Parse(s, arity); v != u || e != api.OK {
				t.Errorf("Parse(%q, %d) = %v, %d, want %v", s, arity, v, e, u)
			}
		}
	}
}

func TestTextRefuses(t *testing.T) { // P1.6
	for _, c := range []struct {
		t     api.Time
		arity int
	}{
		{at(5, 0, 12), 2}, {at(5, 1, 0), 1}, {at(5, 0, 1), 1}, {at(5, 0, 0), 0}, {at(5, 0, 0), 4}, {at(5, 0, 0), -1},
	} {
		if s, e := Text(c.t, c.arity); s != "" || e != api.ErrArity {
			t.Errorf("Text(%v, %d) = %q, %d, want ErrArity and no text", c.t, c.arity, s, e)
		}
	}
}

func TestParseRefuses(t *testing.T) { // P1.7
	for _, c := range []struct {
		arity int
		texts []string
	}{
		{1, []string{
			"", "18446744073709551616", "18446744073709551620", "99999999999999999999", "36893488147419103232", "184467440737095516150",
			"05", "00", "018446744073709551615", "+5", "-5", "-0", "+0", " 5", "5 ", "\t5", "5\n", "5\x00", "5\r",
			"5.", ".5", ".", "5.1", "5.0", "0x5", "5e0", "1_0", "5,", "five", "\xff", "٥", "５",
			strings.Repeat("0", 1000), strings.Repeat("9", 100000), strings.Repeat(".", 100000),
		}},
		{2, []string{
			"", "5", "5.", ".5", ".", "5..1", "5.1.", ".5.1", "5.1.0", "5.01", "00.1", "5.18446744073709551616", "5. 1", "5 .1", "5.+1", "5,1", "5.-0", "5.1 ",
		}},
		{3, []string{
			"", "5", "5.1", "1..2", "1.2.", ".1.2", "..", "1.2.3.", "1.2.3.4", ".1.2.3", "1.2.03", "1.2.18446744073709551616", "1.2.3\n", "1.2,3",
		}},
	} {
		for _, s := range c.texts {
			if u, e := Parse(s, c.arity); u != (api.Time{}) || e != api.ErrText {
				t.Errorf("Parse(%.40q, %d) = %v, %d, want ErrText and no time", s, c.arity, u, e)
			}
		}
	}
}

func TestParseAsksForTheArityFirst(t *testing.T) { // P1.7, P4
	for _, arity := range []int{0, 4, -1, -1 << 63, 1<<63 - 1} {
		for _, s := range []string{"", "5", "1.2", "1.2.3", "1.2.3.4", "x"} {
			if u, e := Parse(s, arity); u != (api.Time{}) || e != api.ErrArity {
				t.Errorf("Parse(%q, %d) = %v, %d, want ErrArity and no time", s, arity, u, e)
			}
		}
	}
}

func TestParseTakesOnlyTexts(t *testing.T) { // P1.7
	signs := "01.+- 9"
	var try func(s string, more int)
	try = func(s string, more int) {
		for arity := 1; arity <= api.MaxArity; arity++ {
			u, e := Parse(s, arity)
			if e == api.OK {
				if back, _ := Text(u, arity); back != s {
					t.Errorf("Parse(%q, %d) = %v, whose text is %q", s, arity, u, back)
				}
			} else if e != api.ErrText || u != (api.Time{}) {
				t.Errorf("Parse(%q, %d) = %v, %d", s, arity, u, e)
			}
		}
		if more == 0 {
			return
		}
		for _, r := range signs {
			try(s+string(r), more-1)
		}
	}
	try("", 5)
}
