package script

import (
	"slices"
	"strings"
	"sync"
	"testing"

	"sluice/api"
	"sluice/draws"
	"sluice/world"
)

func TestBytesHandedInStayAsTheyWere(t *testing.T) { // P2: and nothing of them is kept
	for _, g := range []api.Graph{summed(), draws.Busy(), draws.Rounds(), freely(), standing(), {}} {
		form := bytesOf(t, g)
		room := append(slices.Clone(form), 7, 7, 7)
		was := slices.Clone(room)
		text := "step 0\nstep 1\nhear 0 1\n"
		s, e := Run(room[:len(form)], 2, text)
		if !slices.Equal(room, was) {
			t.Error("the bytes are changed")
		}
		kept := strings.Clone(s)
		clear(room)
		if s != kept {
			t.Error("the bytes are written over, and it is seen")
		}
		if again, f := Run(form, 2, text); again != kept || f != e {
			t.Errorf("the same is told otherwise: %q, %d, and %q, %d", kept, e, again, f)
		}
	}
}

func TestActsHandedInStayAsTheyWere(t *testing.T) { // P2: what their lines don't tell, too, and the room behind
	other := world.Act{Kind: -7, W: -7, N: -7, From: -7, T: at(7, 7, 7), R: rec(7, 7)}
	for seed := range uint64(300) {
		d := drawer{draws.Numbers(seed), 40}
		l := append(d.acts(2, 30), other, other)
		was := slices.Clone(l)
		text, e := Text(l[:len(l)-2], 2)
		if !slices.Equal(l, was) {
			t.Fatal("the acts are changed")
		}
		kept := strings.Clone(text)
		clear(l)
		if again, f := Text(was[:len(was)-2], 2); text != kept || again != kept || e != f {
			t.Fatal("the acts are written over, and it is seen")
		}
	}
}

func TestActsHandedOutAreNewMemory(t *testing.T) { // P2, P5: each answer by itself
	other := world.Act{Kind: -7, W: -7, N: -7, From: -7, T: at(7, 7, 7), R: rec(7, 7)}
	for _, text := range []string{"", "step 0\n", strings.Repeat("send 0 1 2 3 4\nstep 5\nhear 6 7\n", 33), strings.Repeat("step 0\n", 2048)} {
		one, _, _ := Parse(text, 1)
		two, _, _ := Parse(text, 1)
		kept := slices.Clone(two)
		grown := append(one, other, other)
		for _, l := range [][]world.Act{one[:cap(one)], grown[:cap(grown)]} {
			for i := range l {
				l[i] = other
			}
		}
		if !slices.Equal(two, kept) {
			t.Error("two answers share memory")
		}
		parses(t, text, 1, kept...)
		says(t, text, 1, kept...)
	}
}

func TestTheSameIsAnsweredEachTime(t *testing.T) { // P3, P5: one run sees nothing of another, and many may run at once
	raw := draws.Busy()
	b := bytesOf(t, raw)
	acts := drawnScript(t, draws.Numbers(3), raw, 4, 300)
	text, _ := plainText(acts, raw.Arity)
	want, e := Run(b, 4, text)
	if e != api.OK {
		t.Fatal(e)
	}
	var group sync.WaitGroup
	for range 8 {
		group.Go(func() {
			for range 3 {
				if s, e := Run(b, 4, text); s != want || e != api.OK {
					t.Errorf("a run tells otherwise: %d", e)
				}
				l, _, _ := Parse(text, raw.Arity)
				if s, _ := Text(acts, raw.Arity); !slices.Equal(l, acts) || s != text {
					t.Error("a text is told otherwise")
				}
			}
		})
	}
	group.Wait()
}
