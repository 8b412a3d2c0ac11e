package draws

import (
	"slices"
	"testing"
)

func TestNumbersAreTheSameEachTime(t *testing.T) {
	a, b, c := Numbers(7), Numbers(7), Numbers(8)
	same := true
	for range 100 {
		x := a(1000)
		if x < 0 || x >= 1000 || x != b(1000) {
			t.Fatalf("%d is out of range, or not what it was", x)
		}
		same = same && x == c(1000)
	}
	if same {
		t.Error("another seed draws the same")
	}
}

func TestNumbersTakeAllThereAre(t *testing.T) {
	next := Numbers(1)
	var often [6]int
	for range 600 {
		often[next(len(often))]++
	}
	if slices.Min(often[:]) < 50 {
		t.Errorf("drawn so often: %v", often)
	}
	if next(1) != 0 || next(0) != 0 || next(-3) != 0 {
		t.Error("a number that there is not")
	}
}

func TestMixedHasTheSameElements(t *testing.T) {
	l := []int{1, 2, 2, 3, 4, 5, 6, 7, 8, 9}
	kept := slices.Clone(l)
	m := Mixed(l, Numbers(3))
	if !slices.Equal(l, kept) {
		t.Error("the list that was handed in is changed")
	}
	if slices.Equal(m, kept) {
		t.Error("the order is the same")
	}
	slices.Sort(m)
	if !slices.Equal(m, kept) {
		t.Errorf("other elements: %v", m)
	}
}
