package script

import (
	"math"
	"slices"
	"strings"
	"testing"

	"sluice/api"
	"sluice/world"
)

// ordinary is an act of each kind whose line any arity has.
func ordinary(kind int) world.Act {
	return bare(world.Act{Kind: kind, W: 1, N: 2, From: 3, T: at(4), R: rec(5, 6)})
}

// noKinds are numbers that are no kind.
func noKinds() []int {
	return []int{0, 13, -1, 14, -12, 256, 257, 1<<32 + 1, math.MaxInt, math.MinInt, math.MinInt + 1}
}

// noWholes are numbers that no line tells as a whole.
func noWholes() []int {
	return []int{-1, greatest + 1, -2, greatest + 2, 1 << 32, 1<<32 + 1, math.MaxInt, math.MinInt, -greatest}
}

func TestTextOfNoArity(t *testing.T) { // P27.2, P4: ahead of all that is wrong with the acts
	for _, arity := range noArities() {
		fails(t, api.ErrArity, arity)
		fails(t, api.ErrArity, arity, ordinary(world.Step))
		fails(t, api.ErrArity, arity, world.Act{Kind: 13})
		fails(t, api.ErrArity, arity, make([]world.Act, 2049)...)
		fails(t, api.ErrArity, arity, slices.Repeat([]world.Act{ordinary(world.Send)}, 9999)...)
	}
}

func TestTextOfManyActs(t *testing.T) { // P27.2, P4: ahead of all that is wrong with an act
	step := []world.Act{ordinary(world.Step)}
	for arity := 1; arity <= 3; arity++ {
		says(t, strings.Repeat("step 1\n", 2048), arity, slices.Repeat(step, 2048)...)
		fails(t, api.ErrLong, arity, slices.Repeat(step, 2049)...)
		fails(t, api.ErrLong, arity, slices.Repeat(step, 5000)...)
		fails(t, api.ErrLong, arity, make([]world.Act, 2049)...)
		fails(t, api.ErrLong, arity, slices.Repeat([]world.Act{{Kind: world.Send, T: at(1, 1, 1)}}, 2049)...)
		fails(t, api.ErrArg, arity, make([]world.Act, 2048)...)
	}
}

func TestTextOfNoKind(t *testing.T) { // P27.2
	for _, kind := range noKinds() {
		for arity := 1; arity <= 3; arity++ {
			fails(t, api.ErrArg, arity, world.Act{Kind: kind})
			fails(t, api.ErrArg, arity, world.Act{Kind: kind, W: -1, T: at(1, 1, 1)})
		}
	}
	for kind := world.Send; kind <= world.Pass; kind++ {
		if s, e := Text([]world.Act{ordinary(kind)}, 1); e != api.OK || !strings.HasPrefix(s, name(kind)+" ") {
			t.Errorf("kind %d: %q, %d", kind, s, e)
		}
	}
}

// with is an act with another whole.
func with(a world.Act, letter string, n int) world.Act {
	switch letter {
	case "W":
		a.W = n
	case "N":
		a.N = n
	case "F":
		a.From = n
	}
	return a
}

func TestTextOfWholes(t *testing.T) { // P27.2: each of them at its ends and beyond, told and not told
	for kind := world.Send; kind <= world.Pass; kind++ {
		a := ordinary(kind)
		for _, letter := range []string{"W", "N", "F"} {
			for _, n := range noWholes() {
				if tells(kind, letter) {
					fails(t, api.ErrArg, 1, with(a, letter, n))
				} else {
					want, _ := plainText([]world.Act{a}, 1)
					says(t, want, 1, with(a, letter, n))
				}
			}
			for _, n := range []int{0, 1, greatest - 1, greatest} {
				want, _ := plainText([]world.Act{with(a, letter, n)}, 1)
				says(t, want, 1, with(a, letter, n))
			}
		}
	}
	says(t, "run 2147483647 2147483647\n", 1, world.Act{Kind: world.Run, W: greatest, N: greatest, From: -1})
	says(t, "pass 0 2147483647\n", 1, world.Act{Kind: world.Pass, N: -1, From: greatest})
}

func TestTextOfTimes(t *testing.T) { // P27.2: those that fit and those that don't, told and not told
	for kind := world.Send; kind <= world.Pass; kind++ {
		for _, u := range []api.Time{at(), at(1), at(0, 1), at(0, 0, 1), at(last, last), at(last, last, last), at(last), at(0, last), at(1, 0, 1)} {
			for arity := 1; arity <= 3; arity++ {
				a := ordinary(kind)
				a.T = u
				if tells(kind, "T") && !fits(u, arity) {
					fails(t, api.ErrArity, arity, a)
				} else {
					want, _ := plainText([]world.Act{a}, arity)
					says(t, want, arity, a)
				}
			}
		}
	}
}

func TestWhatALineDoesNotTell(t *testing.T) { // P27.2: it isn't looked at
	for kind := world.Send; kind <= world.Pass; kind++ {
		for arity := 1; arity <= 3; arity++ {
			want, _ := plainText([]world.Act{ordinary(kind)}, arity)
			for _, n := range append(noWholes(), 0, 7) {
				a := ordinary(kind)
				if !tells(kind, "N") {
					a.N = n
				}
				if !tells(kind, "F") {
					a.From = n
				}
				if !tells(kind, "T") {
					a.T = at(last, 1, 1)
				}
				if !tells(kind, "K") {
					a.R = rec(uint64(n), last)
				}
				says(t, want, arity, a)
			}
		}
	}
}

func TestWhichErrorOfAnAct(t *testing.T) { // P27.2, P4: the kind and the wholes, then the time
	for kind := world.Send; kind <= world.Pass; kind++ {
		for _, letter := range letters(kind) {
			if !isWhole(letter) {
				continue
			}
			for _, n := range noWholes() {
				a := with(ordinary(kind), letter, n)
				a.T = at(1, 1, 1)
				fails(t, api.ErrArg, 1, a)
				fails(t, api.ErrArg, 2, a)
			}
		}
	}
	fails(t, api.ErrArg, 1, world.Act{Kind: world.Send, W: -1, N: -1, T: at(0, 1)})
}

func TestWhichOfTwoActs(t *testing.T) { // P27.2, P4: the first of them that is wrong, whatever is wrong with it
	arg, arity, fine := world.Act{Kind: world.Run, N: -1}, world.Act{Kind: world.Lower, T: at(0, 0, 1)}, ordinary(world.Emit)
	kind := world.Act{Kind: 13}
	for _, c := range []struct {
		l []world.Act
		e api.Errno
	}{
		{[]world.Act{arg, arity}, api.ErrArg},
		{[]world.Act{arity, arg}, api.ErrArity},
		{[]world.Act{kind, arity}, api.ErrArg},
		{[]world.Act{arity, kind}, api.ErrArity},
		{[]world.Act{fine, arity, fine, arg}, api.ErrArity},
		{[]world.Act{fine, fine, arg, arity, fine}, api.ErrArg},
		{[]world.Act{fine, fine, fine, arity}, api.ErrArity},
		{[]world.Act{fine, fine, fine, kind}, api.ErrArg},
	} {
		fails(t, c.e, 1, c.l...)
		fails(t, c.e, 2, c.l...)
	}
	many := slices.Repeat([]world.Act{fine}, 2047)
	fails(t, api.ErrArg, 1, append(slices.Clip(many), arg)...)
	fails(t, api.ErrArg, 1, append(slices.Clip(many), kind)...)
	fails(t, api.ErrArity, 1, append(slices.Clip(many), arity)...)
}

func TestTextsThatWouldBeLong(t *testing.T) { // P27.2, P4: behind all acts
	a := world.Act{Kind: world.Send, T: at(last), R: rec(last, 100000000000)} // its line is of 64 bytes
	full := slices.Repeat([]world.Act{a}, 1024)
	says(t, strings.Repeat(a64, 1024), 1, full...)
	more := slices.Clone(full)
	more[500].R.Val *= 10
	fails(t, api.ErrLong, 1, more...)
	more[501].R.Val /= 10
	if s, e := Text(more, 1); len(s) != 65536 || e != api.OK {
		t.Errorf("%d bytes, %d", len(s), e)
	}
	fails(t, api.ErrLong, 1, append(slices.Clone(full), ordinary(world.Step))...)
	greatest := world.Act{Kind: world.Advance, W: greatest, N: greatest, T: at(last, last, last)}
	fails(t, api.ErrLong, 3, slices.Repeat([]world.Act{greatest}, 2048)...)
	for _, c := range []struct {
		a world.Act
		e api.Errno
	}{{world.Act{}, api.ErrArg}, {world.Act{Kind: world.Step, W: -1}, api.ErrArg}, {world.Act{Kind: world.Emit, T: at(0, 1)}, api.ErrArity}} {
		fails(t, c.e, 1, append(slices.Repeat([]world.Act{a}, 2047), c.a)...)
		fails(t, c.e, 1, append([]world.Act{c.a}, slices.Repeat([]world.Act{a}, 2047)...)...)
	}
}
