package script

import (
	"fmt"
	"math"
	"slices"
	"strings"
	"testing"

	"sluice/api"
	"sluice/world"
)

// noArities are numbers that are no arity.
func noArities() []int { return []int{0, 4, -1, 5, math.MaxInt, math.MinInt} }

// a64 is a line of 64 bytes, of which 1024 are as long as a text may be.
const a64 = "send 0 0 18446744073709551615 18446744073709551615 100000000000\n"

func TestParseOfNoArity(t *testing.T) { // P27.1, P4: ahead of all that is wrong with the text
	for _, arity := range noArities() {
		for _, text := range []string{"", "step 0\n", "step 0", "x", "\n", strings.Repeat("x", 65537), strings.Repeat("\n", 70000), strings.Repeat("step 0\n", 2049), strings.Repeat("step 0\n", 9999)} {
			refused(t, text, arity, 0, api.ErrArity)
		}
	}
}

func TestParseOfLongTexts(t *testing.T) { // P27.1, P4: ahead of all lines
	full := strings.Repeat(a64, 1024)
	l, n, e := Parse(full, 1)
	if len(full) != api.MaxText || len(l) != 1024 || n != 0 || e != api.OK {
		t.Errorf("of %d bytes: %d acts, %d, %d", len(full), len(l), n, e)
	}
	for _, text := range []string{"0" + full, full + "0", full[:65535] + "0\n", full + "step 0\n", strings.Repeat("x", 65537), strings.Repeat("\n", 65537), strings.Repeat(" ", 65537), strings.Repeat("step 0\n", 9363), strings.Repeat("step 0\n", 9999), strings.Repeat("step 0", 1<<20)} {
		for arity := 1; arity <= 3; arity++ {
			refused(t, text, arity, 0, api.ErrLong)
		}
	}
	for _, fill := range []string{"x", "\n", " ", "0", "\x00", "\xff"} {
		refused(t, strings.Repeat(fill, 65536), 1, 1, api.ErrLine)
		refused(t, a64+strings.Repeat(fill, 65536-64), 1, 2, api.ErrLine)
		refused(t, full+fill, 1, 0, api.ErrLong)
	}
	refused(t, full[:65535], 1, 1024, api.ErrLine)
	refused(t, "send 0 0 0 0 "+strings.Repeat("0", 65522)+"\n", 1, 1, api.ErrLine)
	refused(t, "send 0 0 0 0 "+strings.Repeat("9", 65522)+"\n", 1, 1, api.ErrLine)
	refused(t, "send 0 0 0"+strings.Repeat(".0", 32700)+" 0 0\n", 3, 1, api.ErrLine)
	// A sign of several bytes is so many bytes long.
	refused(t, strings.Repeat("é", 32768), 1, 1, api.ErrLine)
	refused(t, strings.Repeat("é", 32768)+"x", 1, 0, api.ErrLong)
}

func TestParseOfManyLines(t *testing.T) { // P27.1, P4: a line beyond is not looked at
	most := strings.Repeat("step 0\n", 2048)
	l, n, e := Parse(most, 1)
	if len(l) != 2048 || n != 0 || e != api.OK || slices.ContainsFunc(l, func(a world.Act) bool { return a != world.Act{Kind: world.Step} }) {
		t.Errorf("of 2048 lines: %d acts, %d, %d", len(l), n, e)
	}
	for _, more := range []string{"step 0\n", "step 0\nstep 0\n", "step 0", "x", "x\n", "\n", " ", "\n\n\n", "\xff", "step 00\n", strings.Repeat("step 0\n", 7000), strings.Repeat("x", 50000)} {
		refused(t, most+more, 1, 2049, api.ErrLong)
	}
	// The first line that is wrong is told, and why.
	for number := 1; number <= 2048; number += 89 {
		text := strings.Repeat("step 0\n", number-1) + "step\n" + strings.Repeat("step 0\n", 3000)
		refused(t, text, 1, number, api.ErrLine)
	}
	refused(t, strings.Repeat("step 0\n", 2047)+"step\nstep 0\n", 1, 2048, api.ErrLine)
	refused(t, strings.Repeat("step 0\n", 2047)+"step 0", 1, 2048, api.ErrLine)
	refused(t, strings.Repeat("\n", 2049), 1, 1, api.ErrLine)
}

func TestWhichLineIsNone(t *testing.T) { // P27.1, P4: the first one, a later one, the last one; the first of several
	for _, bad := range []string{"x", "step", "", " ", "step 0 ", "step 0\r", "\xff", "send 0 0 0.0 0 0"} {
		for number := 1; number <= 9; number++ {
			lines := slices.Repeat([]string{"hear 0 1", "send 0 1 2 3 4", "step 7"}, 3)
			lines[number-1] = bad
			refused(t, all(lines...), 1, number, api.ErrLine)
			lines[8] = bad
			refused(t, all(lines...), 1, number, api.ErrLine)
			refused(t, all(lines...)+"step 0", 1, number, api.ErrLine)
		}
	}
	refused(t, "step 0\nstep 1\nstep 2", 1, 3, api.ErrLine)
	refused(t, "step 0\n\n", 1, 2, api.ErrLine)
	refused(t, "\nstep 0\n", 1, 1, api.ErrLine)
	refused(t, "step 0\n ", 1, 2, api.ErrLine)
	refused(t, "step 0\n\nx", 1, 2, api.ErrLine)
}

// samples is a line of each kind, without its newline.
func samples(arity int) map[int]string {
	u := []string{"10", "10.2", "10.2.30"}[arity-1]
	return map[int]string{
		world.Send: "send 1 20 " + u + " 4 55", world.Emit: "emit 1 20 " + u + " 4 55", world.Advance: "advance 1 20 " + u, world.Lower: "lower 1 20 " + u,
		world.Close: "close 1 20", world.Take: "take 1 20", world.Clone: "clone 1 20", world.Drop: "drop 1 20", world.Run: "run 1 20",
		world.Hear: "hear 1 20", world.Pass: "pass 1 20", world.Step: "step 20",
	}
}

func TestBlanks(t *testing.T) { // P27.1: one between two words, and nothing else
	for arity := 1; arity <= 3; arity++ {
		for _, line := range samples(arity) {
			words := strings.Split(line, " ")
			noLine(t, arity, " "+line+"\n", line+" \n", "\t"+line+"\n", line+"\t\n", line+"\r\n", "\r"+line+"\n", line+"\r", line, line+" ", "\n"+line+"\n", line+"\x00\n", "\x00"+line+"\n", line+"\v\n", line+"\f\n")
			for _, odd := range []string{"", "  ", "   ", "\t", " \t", "\t ", "\n", " \n", "\n ", "\r", "\v", "\f", "\x00", "_", ",", "\u00a0", "\u2003", "\u2028", "\u0085", "\u200b", "\ufeff"} {
				for i := 1; i < len(words); i++ {
					noLine(t, arity, strings.Join(words[:i], " ")+odd+strings.Join(words[i:], " ")+"\n")
				}
				noLine(t, arity, strings.Join(words, odd)+"\n")
			}
			for _, behind := range []string{"\n", " ", line, " " + line + "\n"} {
				refused(t, line+"\n"+behind, arity, 2, api.ErrLine)
			}
		}
	}
	noLine(t, 1, "\n", " \n", "  \n", "\t\n", " ", "\x00", "\r\n")
}

func TestNames(t *testing.T) { // P27.1: byte for byte
	for kind, line := range samples(2) {
		first, rest, _ := strings.Cut(line, " ")
		for _, odd := range []string{strings.ToUpper(first), strings.ToUpper(first[:1]) + first[1:], first[:len(first)-1] + strings.ToUpper(first[len(first)-1:]), first + "s", "s" + first, first[1:], first[:len(first)-1], "", first + "\x00", first + ".", first + ":", "x", "act", "0", fmt.Sprint(kind), "\"" + first + "\"", first + first} {
			noLine(t, 2, odd+" "+rest+"\n")
		}
		noLine(t, 2, first+"\n", rest+"\n", first+rest+"\n", " "+rest+"\n", first+" \n")
	}
}

func TestTooFewWordsAndTooMany(t *testing.T) { // P27.1
	for arity := 1; arity <= 3; arity++ {
		for _, line := range samples(arity) {
			words := strings.Split(line, " ")
			for i := range words {
				noLine(t, arity, strings.Join(slices.Delete(slices.Clone(words), i, i+1), " ")+"\n", strings.Join(words[:i], " ")+"\n")
				for _, more := range []string{"0", "7", "0.0", "0.0.0", "x", "", words[0]} {
					noLine(t, arity, strings.Join(slices.Insert(slices.Clone(words), i, more), " ")+"\n")
				}
			}
			noLine(t, arity, line+" 0\n", line+" 0 0\n", line+" x\n", line+" "+line+"\n", line+strings.Repeat(" 0", 9000)+"\n")
		}
	}
}

func TestKindsWithTheWordsOfAnother(t *testing.T) { // P27.1
	for arity := 1; arity <= 3; arity++ {
		l := samples(arity)
		for kind, line := range l {
			for other, of := range l {
				_, words, _ := strings.Cut(of, " ")
				text := name(kind) + " " + words + "\n"
				if len(letters(kind)) != len(letters(other)) {
					noLine(t, arity, text)
				} else if got, n, e := Parse(text, arity); e != api.OK || n != 0 || len(got) != 1 || got[0].Kind != kind {
					t.Errorf("%q is like %q: %v, %d, %d", text, line, got, n, e)
				}
			}
		}
	}
}

func TestNumbersOfALine(t *testing.T) { // P27.1: each word that tells a number, a whole, a time
	odd := []string{"", "00", "01", "007", "+0", "+1", "-0", "-1", "- 1", "0x1", "0b1", "0o1", "1_0", "1e0", "1.", ".1", ".", "1,", "x", "1x", "x1", "1\x00", "\x001", "٥", "５", "१", "²", "1\u0301", "\ufffd", "\xff", "1\xff", "\xc3", "nil", "Inf", "NaN", "9223372036854775808x", "--1", "++1", "0-", "18446744073709551616", "18446744073709551625", "99999999999999999999", "36893488147419103232", "184467440737095516150", "018446744073709551615", strings.Repeat("1", 1000), strings.Repeat("0", 1000)}
	above := []string{"2147483648", "2147483649", "2147483657", "3000000000", "4294967295", "4294967296", "4294967297", "6442450944", "9223372036854775807", "9223372036854775808", "18446744073709551615", "9007199254740992"}
	for arity := 1; arity <= 3; arity++ {
		for kind, line := range samples(arity) {
			for i, letter := range letters(kind) {
				put := func(word string) string {
					words := strings.Split(line, " ")
					words[i+1] = word
					return strings.Join(words, " ") + "\n"
				}
				for _, word := range odd {
					noLine(t, arity, put(word))
				}
				for _, word := range above {
					if isWhole(letter) {
						noLine(t, arity, put(word))
					} else if letter != "T" {
						taken(t, put(word), arity)
					}
				}
				if letter == "T" {
					timesOfALine(t, arity, odd, put)
					continue
				}
				taken(t, put("0"), arity)
				taken(t, put("2147483647"), arity)
				noLine(t, arity, put("0.0"), put("1.0"), put("0.0.0"), put("1.2"))
			}
		}
	}
}

// taken holds that a text is some act's.
func taken(t *testing.T, text string, arity int) {
	t.Helper()
	l, _, e := Parse(text, arity)
	if e != api.OK || len(l) != 1 {
		t.Fatalf("Parse(%.60q, %d) = %v, %d", text, arity, l, e)
	}
	says(t, text, arity, l...)
}

// timesOfALine holds which times a line may have.
func timesOfALine(t *testing.T, arity int, odd []string, put func(word string) string) {
	t.Helper()
	parts := []string{"4", "0", "18446744073709551615"}
	for many := 1; many <= 4; many++ {
		word := strings.Join(slices.Repeat([]string{"0"}, many), ".")
		if many == arity {
			taken(t, put(word), arity)
		} else {
			noLine(t, arity, put(word))
		}
	}
	for i := range arity {
		for _, bad := range append(slices.Clone(odd), " ", "0 0", "\n2") {
			l := slices.Clone(parts[:arity])
			l[i] = bad
			noLine(t, arity, put(strings.Join(l, ".")))
		}
	}
	taken(t, put(strings.Join(parts[3-arity:], ".")), arity)
	if arity > 1 {
		for _, between := range []string{"", ",", "..", " ", ":", ". ", " .", "·"} {
			noLine(t, arity, put(strings.Join(parts[:arity], between)))
		}
	}
}

func TestTimesOfAnotherArity(t *testing.T) { // P27.1
	for arity := 1; arity <= 3; arity++ {
		for other := 1; other <= 3; other++ {
			for kind, line := range samples(other) {
				if arity == other || !tells(kind, "T") {
					taken(t, line+"\n", arity)
				} else {
					noLine(t, arity, line+"\n")
				}
			}
		}
	}
}

func TestSignsBeyondASCII(t *testing.T) { // P27.1: at every place, in front of each byte and instead of it
	signs := []string{"é", "ß", "٥", "５", "ｓ", "ﬀ", "ſ", "\u00a0", "\u0085", "\u2028", "\u3000", "\ufffd", "\ufeff", "\U0001f600", "\xff", "\xc3", "\x80", "\xe2\x82", "\xf0\x9f", "\xed\xa0\x80", "\xc0\x80", "\xc0\x8a", "\xc0\xa0", "\xc1\xb3", "\x8a", "\xa0", "\xb0"}
	for _, line := range samples(2) {
		text := line + "\n"
		for _, sign := range signs {
			for i := range text {
				noLine(t, 2, text[:i]+sign+text[i:], text[:i]+sign+text[i+1:])
			}
			refused(t, text+sign, 2, 2, api.ErrLine)
			refused(t, text+sign+text, 2, 2, api.ErrLine)
			refused(t, text+sign+"\n"+text, 2, 2, api.ErrLine)
		}
	}
}
