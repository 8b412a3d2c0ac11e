package rest

import (
	"fmt"
	"math"
	"slices"
	"sync"
	"testing"

	"sluice/api"
	"sluice/draws"
	"sluice/world"
)

// several are some worlds, behind acts of all kinds.
func several(t *testing.T) []*world.World {
	t.Helper()
	l := []*world.World{onWay(t), closed(t), begin(t, graphOf(1, nil), 1), pressed(t, 3, 1, 2), filled(t, 5, 3)}
	for seed := range uint64(8) {
		next := draws.Numbers(seed)
		l = append(l, drawnWorld(t, next, anyGraph(next), 150))
		if seed%2 == 0 {
			shuts(t, l[len(l)-1])
		}
	}
	return l
}

// allOf is all that the calls answer of a world, and of copies behind those that change it.
func allOf(w *world.World, picks []int) string {
	text := fmt.Sprint(Exact(w), Still(w))
	d, e := Enough(w)
	text += fmt.Sprint(d, e)
	v := w.Copy()
	text += fmt.Sprint(HearAll(v, picks...)) + emptied(v)
	v = w.Copy()
	text += fmt.Sprint(Round(v, picks, picks[len(picks)/2:])) + emptied(v)
	n, e := Rest(v, 7, picks...)
	return text + fmt.Sprint(n, e) + emptied(v)
}

func TestWhatIsAskedChangesNothing(t *testing.T) { // P2
	for i, w := range several(t) {
		was := emptied(w)
		for range 2 {
			Exact(w)
			Still(w)
			Enough(w)
			Rest(w, 0, 1, 2)
			Rest(w, -1, 1)
		}
		if emptied(w) != was {
			t.Errorf("%d: it has changed", i)
		}
	}
}

func TestPicksStayAsTheyWere(t *testing.T) { // P2: the room behind them, too
	l := append(drawnPicks(draws.Numbers(4), 99), math.MinInt, -7, 5)
	for cut := range len(l) {
		was := slices.Clone(l)
		for _, w := range several(t)[:6] {
			HearAll(w.Copy(), l[:cut]...)
			Round(w.Copy(), l[:cut], l[cut/2:cut])
			Rest(w.Copy(), 5, l[:cut]...)
		}
		if !slices.Equal(l, was) {
			t.Fatalf("%d picks are %v, were %v", cut, l, was)
		}
	}
}

func TestPicksAreNotKept(t *testing.T) { // P2, P3: each call begins with its own
	for i, w := range several(t) {
		v, picks := w.Copy(), []int{3, -5, 2, 7, 1, 1, 4, -2, 9}
		for range 3 {
			mine := slices.Clone(picks)
			Round(w, mine, mine)
			for k := range mine {
				mine[k] = 6
			}
			Round(v, picks, picks)
		}
		same(t, fmt.Sprint("world ", i), w, v)
	}
}

func TestListsWithoutElementsAreNone(t *testing.T) { // P2
	for i, w := range several(t) {
		v, u := w.Copy(), w.Copy()
		e, f, g := Round(w, nil, nil), Round(v, []int{}, []int{}), Round(u, []int{0, 0}, []int{0})
		if e != f || e != g {
			t.Errorf("%d: Round = %d, %d, %d", i, e, f, g)
		}
		same(t, "none or nil", w, v)
		same(t, "none or the first", w, u)
	}
}

func TestTheSameEachTime(t *testing.T) { // P3
	picks := drawnPicks(draws.Numbers(9), 90)
	for i, w := range several(t) {
		want := allOf(w, picks)
		for range 5 {
			if got := allOf(w.Copy(), picks); got != want {
				t.Fatalf("%d: it is\n%s, was\n%s", i, got, want)
			}
		}
	}
}

func TestManyWorldsAtOnce(t *testing.T) { // P3, P5: none has to do with another one
	picks := drawnPicks(draws.Numbers(11), 90)
	worlds := several(t)
	var want []string
	for _, w := range worlds {
		want = append(want, allOf(w, picks))
	}
	got := make([][]string, 6)
	var group sync.WaitGroup
	for i := range got {
		mine := make([]*world.World, len(worlds))
		for k, w := range worlds {
			mine[k] = w.Copy()
		}
		group.Go(func() {
			for _, w := range mine {
				got[i] = append(got[i], allOf(w, picks))
			}
		})
	}
	group.Wait()
	for i, l := range got {
		if !slices.Equal(l, want) {
			t.Errorf("%d: it tells something else", i)
		}
	}
}

func TestACopyIsApart(t *testing.T) { // P5
	for i, w := range several(t) {
		v, was := w.Copy(), emptied(w)
		HearAll(v, 1, 2)
		Round(v, []int{1}, nil)
		Rest(v, 3, -1)
		if emptied(w) != was {
			t.Errorf("%d: it saw what was done to its copy", i)
		}
	}
}

func TestManyPicksBehindWhatIsPicked(t *testing.T) { // P28.1, P28.3, P28.6: those that aren't used play no part
	for i, w := range several(t) {
		v := w.Copy()
		picks := make([]int, 5000)
		for k := range picks {
			picks[k] = k*k - 40*k
		}
		few := picks[:2200]
		e, f := Round(w, picks, picks), Round(v, few, few[:api.MaxWorkers])
		if e != f {
			t.Errorf("%d: %d, %d", i, e, f)
		}
		same(t, "more picks", w, v)
	}
}
