package script

import (
	"slices"
	"strings"
	"testing"

	"sluice/api"
	"sluice/draws"
	"sluice/world"
)

// drawer draws acts and lines; odd says how often something of an act may not be (0: never).
type drawer struct {
	next func(below int) int
	odd  int
}

func (d drawer) strange() bool { return d.odd > 0 && d.next(d.odd) == 0 }

func (d drawer) whole() int {
	n := []int{d.next(4), d.next(300), d.next(greatest), greatest - d.next(2)}[d.next(4)]
	if d.strange() {
		return []int{-1 - n, greatest + 1 + n, n << 33, -n << 33}[d.next(4)]
	}
	return n
}

func (d drawer) number() uint64 {
	v := uint64(d.next(1<<31))<<33 ^ uint64(d.next(1<<31))<<20 ^ uint64(d.next(1<<31))
	return []uint64{uint64(d.next(4)), uint64(d.next(300)), v, last - uint64(d.next(2)), v >> d.next(64)}[d.next(5)]
}

func (d drawer) time(arity int) api.Time {
	var numbers [api.MaxArity]uint64
	for i := range arity {
		numbers[i] = d.number()
	}
	return at(numbers[:]...)
}

// act has all its fields, but what its line tells alone may be.
func (d drawer) act(arity int) world.Act {
	odd := drawer{d.next, 2}
	a := world.Act{Kind: world.Send + d.next(world.Pass), W: d.whole(), N: odd.whole(), From: odd.whole(), T: odd.time(3), R: rec(d.number(), d.number())}
	if tells(a.Kind, "N") {
		a.N = d.whole()
	}
	if tells(a.Kind, "F") {
		a.From = d.whole()
	}
	if tells(a.Kind, "T") && !d.strange() {
		a.T = d.time(arity)
	}
	if d.strange() {
		a.Kind = noKinds()[d.next(len(noKinds()))]
	}
	return a
}

func (d drawer) acts(arity, below int) []world.Act {
	var l []world.Act
	for range d.next(below) {
		l = append(l, d.act(arity))
	}
	return l
}

func TestDrawnActsThereAndBack(t *testing.T) { // P27.2, P27.3
	for seed := range uint64(3000) {
		d := drawer{draws.Numbers(seed), 0}
		arity := 1 + d.next(3)
		l := d.acts(arity, 40)
		text, e := Text(l, arity)
		if want, _ := plainText(l, arity); text != want || e != api.OK {
			t.Fatalf("Text(%v, %d) = %q, %d, want %q", l, arity, text, e, want)
		}
		for i := range l {
			l[i] = bare(l[i])
		}
		parses(t, text, arity, l...)
		says(t, text, arity, l...)
	}
}

func TestDrawnActsThatMayNotBe(t *testing.T) { // P27.2, P27.3, P4
	often := map[api.Errno]int{}
	for seed := range uint64(6000) {
		d := drawer{draws.Numbers(seed), 15 + int(seed%100)}
		arity := 1 + d.next(3)
		if d.next(50) == 0 {
			arity = d.next(9) - 2
		}
		l := d.acts(3, 2+int(seed%30))
		if d.next(20) == 0 {
			l = slices.Repeat(l, 150)
		}
		text, e := Text(l, arity)
		want, f := plainText(l, arity)
		if text != want || e != f {
			t.Fatalf("Text(%v, %d) = %q, %d, want %q, %d", l, arity, text, e, want, f)
		}
		if often[e]++; e != api.OK {
			continue
		}
		for i := range l {
			l[i] = bare(l[i])
		}
		parses(t, text, arity, l...)
	}
	for _, e := range []api.Errno{api.OK, api.ErrArg, api.ErrArity, api.ErrLong} {
		if often[e] < 20 {
			t.Errorf("error %d came %d times only", e, often[e])
		}
	}
}

// parsesAsTold holds Parse against the table as it is read apart, and what it takes is told again.
func (k known) parsesAsTold(t *testing.T, text string, arity int) api.Errno {
	t.Helper()
	l, n, e := Parse(text, arity)
	want, number, f := k.parse(text, arity)
	if e != f || n != number || !slices.Equal(l, want) {
		t.Fatalf("Parse(%q, %d) = %v, %d, %d, want %v, %d, %d", text, arity, l, n, e, want, number, f)
	}
	if e == api.OK {
		says(t, text, arity, l...)
	}
	return e
}

func TestDrawnTextsThereAndBack(t *testing.T) { // P27.1, P27.3
	k := known{}
	for seed := range uint64(1000) {
		d := drawer{draws.Numbers(seed), 0}
		arity := 1 + d.next(3)
		text := ""
		for _, a := range d.acts(arity, 40) {
			s, _ := plainLine(a, arity)
			text += s
		}
		if e := k.parsesAsTold(t, text, arity); e != api.OK {
			t.Fatalf("Parse(%q, %d): %d", text, arity, e)
		}
		for other := 1; other <= 3; other++ {
			k.parsesAsTold(t, text, other)
		}
	}
}

func TestDrawnLinesWithAByteLessMoreOrChanged(t *testing.T) { // P27.1, P27.3
	some := []byte("0179 \n\n.-+\tsendhrW,\x00\r\xff")
	k, often := known{}, map[api.Errno]int{}
	for seed := range uint64(400) {
		d := drawer{draws.Numbers(seed), 0}
		arity := 1 + d.next(3)
		line, _ := plainLine(d.act(arity), arity)
		ahead, behind := "", ""
		if d.next(3) == 0 {
			ahead, behind = "step 7\n", "hear 1 2\n"
		}
		try := func(changed string) {
			t.Helper()
			often[k.parsesAsTold(t, ahead+changed+behind, arity)]++
		}
		try(line)
		for i := range line {
			try(line[:i] + line[i+1:])
			for _, b := range []byte{some[d.next(len(some))], some[d.next(len(some))], byte(d.next(256)), line[d.next(len(line))]} {
				try(line[:i] + string([]byte{b}) + line[i:])
				try(line[:i] + string([]byte{b}) + line[i+1:])
			}
		}
		try(line + string(some[d.next(len(some))]))
	}
	if often[api.OK] < 5000 || often[api.ErrLine] < 5000 {
		t.Errorf("so often: %v", often)
	}
}

func TestEachByteOfALineChangedToEachOther(t *testing.T) { // P27.1, P27.3
	k := known{}
	for _, line := range samples(2) {
		line += "\n"
		for i := range line {
			for b := range 256 {
				k.parsesAsTold(t, line[:i]+string([]byte{byte(b)})+line[i+1:], 2)
				k.parsesAsTold(t, line[:i]+string([]byte{byte(b)})+line[i:], 2)
			}
		}
	}
}

func TestShortTexts(t *testing.T) { // P27.1, P27.3: all of few words
	words := []string{"step", "run", "hear", "lower", "send", "0", "2147483648", "00", "1.2", "5", ""}
	k, taken := known{}, 0
	var try func(l []string)
	try = func(l []string) {
		line := strings.Join(l, " ")
		for _, text := range []string{line, line + "\n"} {
			if e := k.parsesAsTold(t, text, 2); e == api.OK {
				taken++
			}
		}
		if len(l) < 4 {
			for _, word := range words {
				try(append(slices.Clip(l), word))
			}
		}
	}
	try(nil)
	if taken < 10 {
		t.Errorf("only %d are taken", taken)
	}
}
