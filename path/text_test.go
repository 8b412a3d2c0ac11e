package path

import (
	"strings"
	"testing"

	"sluice/api"
)

func TestTextAndParseOfPathsThatFit(t *testing.T) { // P2.5
	for _, c := range []struct {
		p     api.Path
		arity int
		s     string
	}{
		{by(7, 0, 0), 1, "+7"},
		{by(7, 0, 0), 2, "+7,0"},
		{by(0, 0, most), 3, "+0,0,18446744073709551615"},
		{by(0, 0, 0), 1, "+0"},
		{by(0, 0, 0), 2, "+0,0"},
		{by(0, 0, 0), 3, "+0,0,0"},
		{by(10, 100, 0), 2, "+10,100"},
		{by(1, 2, 3), 3, "+1,2,3"},
		{by(most, 0, 0), 1, "+18446744073709551615"},
	} {
		if s, e := Text(c.p, c.arity); s != c.s || e != api.OK {
			t.Errorf("Text(%v, %d) = %q, %d, want %q", c.p, c.arity, s, e, c.s)
		}
		if p, e := Parse(c.s, c.arity); p != c.p || e != api.OK {
			t.Errorf("Parse(%q, %d) = %v, %d, want %v", c.s, c.arity, p, e, c.p)
		}
	}
}

func TestTextThereAndBack(t *testing.T) { // P2.5
	for _, p := range grid(0, 7, 10, most) {
		for arity := -1; arity <= api.MaxArity+2; arity++ {
			s, e := Text(p, arity)
			if e != Fits(p, arity) || (e != api.OK && s != "") {
				t.Errorf("Text(%v, %d) = %q, %d", p, arity, s, e)
			}
			if e != api.OK {
				continue
			}
			if q, e := Parse(s, arity); q != p || e != api.OK {
				t.Errorf("Parse(%q, %d) = %v, %d, want %v", s, arity, q, e, p)
			}
		}
	}
}

func TestTextRefuses(t *testing.T) { // P2.5
	for _, c := range []struct {
		p     api.Path
		arity int
	}{
		{by(0, 0, 1), 2}, {by(5, 1, 0), 1}, {by(5, 0, 1), 1}, {by(5, 0, 0), 0}, {by(5, 0, 0), 4}, {by(5, 0, 0), -1},
	} {
		if s, e := Text(c.p, c.arity); s != "" || e != api.ErrArity {
			t.Errorf("Text(%v, %d) = %q, %d, want ErrArity and no text", c.p, c.arity, s, e)
		}
	}
}

func TestParseRefuses(t *testing.T) { // P2.5
	for _, c := range []struct {
		arity int
		texts []string
	}{
		{1, []string{
			"", "+", "7", "0", "-7", "++7", "+-7", "+-0", "-+7", "7+", "+7+", " +7", "+ 7", "+7 ", "+7\n", "\t+7", "+7\x00",
			"+07", "+00", "+018446744073709551615", "+18446744073709551616", "+18446744073709551620", "+99999999999999999999", "+36893488147419103232",
			"+7,", "+,7", "+,", "+7,0", "+7.", "+7.0", "+0x7", "+1e1", "+1_0", "+seven", "+\xff", "+٧", "+７", "＋7",
			strings.Repeat("+", 1000), "+" + strings.Repeat("9", 100000), "+" + strings.Repeat(",", 100000),
		}},
		{2, []string{
			"", "+", "+7", "7,0", "+07,0", "+7,00", "+7,0 ", "+7, 0", "+7 ,0", "+7,+0", "+7,-0", "+7.0", "+7;0", "+7,", "+,7", "+,", "+7,,0", "+7,0,", "+,7,0", "+7,0,0",
			"+18446744073709551616,0", "+0,18446744073709551616", "7.0", "+7,0\n", ",7,0", "+7,0.", "+7.,0",
		}},
		{3, []string{
			"", "+1", "+1,2", "1,2,3", "+1,2,3,", "+1,2,3,4", "+,1,2", "+1,,2", "+1,2,", "+,,", "+01,2,3", "+1,02,3", "+1,2,03",
			"+1,2,18446744073709551616", "+1.2.3", "+1,2.3", "+1.2,3", "1.2.3", "+1,2,3 ",
		}},
	} {
		for _, s := range c.texts {
			if p, e := Parse(s, c.arity); p != (api.Path{}) || e != api.ErrText {
				t.Errorf("Parse(%.40q, %d) = %v, %d, want ErrText and no path", s, c.arity, p, e)
			}
		}
	}
}

func TestParseAsksForTheArityFirst(t *testing.T) { // P2.5, P4
	for _, arity := range []int{0, 4, -1, -1 << 63, 1<<63 - 1} {
		for _, s := range []string{"", "+", "+7", "+7,0", "+1,2,3", "+1,2,3,4", "x"} {
			if p, e := Parse(s, arity); p != (api.Path{}) || e != api.ErrArity {
				t.Errorf("Parse(%q, %d) = %v, %d, want ErrArity and no path", s, arity, p, e)
			}
		}
	}
}

func TestParseTakesOnlyTexts(t *testing.T) { // P2.5
	signs := "01,.+- "
	taken := 0
	var try func(s string, more int)
	try = func(s string, more int) {
		for arity := 1; arity <= api.MaxArity; arity++ {
			p, e := Parse(s, arity)
			if e == api.OK {
				taken++
				if back, _ := Text(p, arity); back != s {
					t.Errorf("Parse(%q, %d) = %v, whose text is %q", s, arity, p, back)
				}
			} else if e != api.ErrText || p != (api.Path{}) {
				t.Errorf("Parse(%q, %d) = %v, %d", s, arity, p, e)
			}
		}
		if more == 0 {
			return
		}
		for _, r := range signs {
			try(s+string(r), more-1)
		}
	}
	try("", 6)
	if taken == 0 {
		t.Error("no text was taken")
	}
}
