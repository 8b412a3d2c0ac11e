package path

import (
	"slices"
	"testing"

	"sluice/api"
)

// subset is the paths of l that the bits pick.
func subset(l []api.Path, bits int) []api.Path {
	var s []api.Path
	for i, p := range l {
		if bits>>i&1 == 1 {
			s = append(s, p)
		}
	}
	return s
}

// plainLeast is the least paths by the words of the promise.
func plainLeast(l []api.Path) []api.Path {
	var least []api.Path
	for _, p := range l {
		keptOut := slices.ContainsFunc(l, func(q api.Path) bool { return q != p && atMostEach(q, p) })
		if !keptOut && !slices.Contains(least, p) {
			least = append(least, p)
		}
	}
	slices.SortFunc(least, plainCompare)
	return least
}

func TestLeastOfExamples(t *testing.T) { // P2.4
	for _, c := range []struct{ l, want []api.Path }{
		{nil, nil},
		{[]api.Path{}, nil},
		{[]api.Path{by(2, 0, 0), by(0, 1, 0), by(2, 0, 0), by(2, 1, 0)}, []api.Path{by(0, 1, 0), by(2, 0, 0)}},
		{[]api.Path{by(3, 3, 3), by(0, 0, 0)}, []api.Path{by(0, 0, 0)}},
		{[]api.Path{by(0, 0, 0), by(0, 0, 0)}, []api.Path{by(0, 0, 0)}},
		{[]api.Path{by(5, 5, 5), by(5, 5, 5), by(5, 5, 5)}, []api.Path{by(5, 5, 5)}},
		{[]api.Path{by(1, 0, 0), by(0, 0, 1), by(0, 1, 0)}, []api.Path{by(0, 0, 1), by(0, 1, 0), by(1, 0, 0)}},
		{[]api.Path{by(most, 0, 0), by(0, most, 0), by(most, most, 0)}, []api.Path{by(0, most, 0), by(most, 0, 0)}},
		{[]api.Path{by(1, 2, 0), by(2, 1, 0), by(0, 3, 0), by(1, 1, 1)}, []api.Path{by(0, 3, 0), by(1, 1, 1), by(1, 2, 0), by(2, 1, 0)}},
	} {
		if got := Least(c.l...); !slices.Equal(got, c.want) {
			t.Errorf("Least(%v) = %v, want %v", c.l, got, c.want)
		}
	}
}

func TestLeastOfAllSubsets(t *testing.T) { // P2.4, P2.6
	l := append(grid(0, 1), by(0, 0, 2), by(2, 0, 0), by(most, 0, 0))
	for bits := range 1 << len(l) {
		s := subset(l, bits)
		want := plainLeast(s)
		turned := slices.Clone(s)
		slices.Reverse(turned)
		twice := append(slices.Clone(turned), s...)
		for _, order := range [][]api.Path{s, turned, twice} {
			got := Least(order...)
			if !slices.Equal(got, want) {
				t.Fatalf("Least(%v) = %v, want %v", order, got, want)
			}
			if again := Least(got...); !slices.Equal(again, got) {
				t.Fatalf("Least(%v) = %v, and of that %v", order, got, again)
			}
			checkLeast(t, order, got)
		}
	}
}

// checkLeast: of each path a least one is at or ahead, and the least ones are apart.
func checkLeast(t *testing.T, l, least []api.Path) {
	t.Helper()
	for _, p := range l {
		if !slices.ContainsFunc(least, func(q api.Path) bool { return Ahead(q, p) }) {
			t.Errorf("Least(%v) = %v has nothing at or ahead of %v", l, least, p)
		}
	}
	for i, p := range least {
		for j, q := range least {
			if i != j && Ahead(p, q) {
				t.Errorf("Least(%v) = %v has %v and %v", l, least, p, q)
			}
		}
	}
}

func TestLeastLeavesWhatItIsGiven(t *testing.T) { // P2
	room := []api.Path{by(3, 0, 0), by(2, 1, 0), by(9, 9, 9), by(7, 7, 7), by(6, 6, 6)}
	was := slices.Clone(room)
	least := Least(room[:3]...)
	least = append(least, by(1, 1, 1), by(1, 1, 1), by(1, 1, 1))
	for i := range least {
		least[i] = by(8, 8, 8)
	}
	if !slices.Equal(room, was) {
		t.Errorf("behind Least the list and what stands behind it are %v, were %v", room, was)
	}
	if again := Least(room[:3]...); !slices.Equal(again, []api.Path{by(2, 1, 0), by(3, 0, 0)}) {
		t.Errorf("asked again Least is %v", again)
	}
	one := []api.Path{by(1, 0, 0)}
	Least(one...)[0] = by(5, 0, 0)
	if one[0] != by(1, 0, 0) {
		t.Error("Least of one path hands out the list itself")
	}
}
