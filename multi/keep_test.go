package multi

import (
	"slices"
	"testing"

	"sluice/api"
)

func TestWhatIsAnsweredIsNewMemory(t *testing.T) { // P2
	all := []api.Delta{by(0, 9, 1), by(3, 3, 2), by(9, 0, 1), by(9, 9, -4)}
	m := of(t, all...)
	front, otherFront := m.Front(), m.Front()
	times, otherTimes := m.Times(), m.Times()
	for _, l := range [][]api.Time{front, times} {
		l[0] = at(5, 5)
		_ = append(l[:1], at(6, 6))
		_ = append(l, at(7, 7))
		clear(l)
	}
	fronts(t, m, otherFront...)
	fronts(t, m, at(0, 9), at(3, 3), at(9, 0))
	if !slices.Equal(otherTimes, m.Times()) {
		t.Errorf("other times saw the change: %v", otherTimes)
	}
	holds(t, m, all...)
	opens(t, m, false, at(0, 0), at(5, 2))
	// Neither do they see what becomes of the counts.
	tells(t, m, []api.Delta{by(3, 3, -2), by(1, 1, 1)}, by(1, 1, 1), by(3, 3, -1))
	if !slices.Equal(otherFront, []api.Time{at(0, 9), at(3, 3), at(9, 0)}) || len(otherTimes) != 4 || otherTimes[1] != at(3, 3) {
		t.Errorf("%v, %v saw the change", otherFront, otherTimes)
	}
}

func TestWhatApplyAnsweredIsNewMemory(t *testing.T) { // P2
	m := New()
	told, _ := m.Apply(by(3, 3, 1), by(0, 9, 1), by(9, 0, 1))
	again, _ := m.Apply(by(4, 0, 1))
	told[0], told[1] = by(7, 7, 7), by(8, 8, 8)
	_ = append(told[:1], by(1, 1, 1))
	_ = append(told, by(2, 2, 1))
	clear(told)
	if !slices.Equal(again, []api.Delta{by(4, 0, 1), by(9, 0, -1)}) {
		t.Errorf("another answer saw the change: %v", again)
	}
	holds(t, m, by(0, 9, 1), by(3, 3, 1), by(4, 0, 1), by(9, 0, 1))
	fronts(t, m, at(0, 9), at(3, 3), at(4, 0))
}

func TestWhatIsHandedInIsNeitherChangedNorKept(t *testing.T) { // P2
	room := []api.Delta{by(5, 5, 1), by(0, 3, 2), by(5, 5, -1), by(3, 0, 1), by(9, 9, 9), by(8, 8, 8)}
	kept := slices.Clone(room)
	m := New()
	tells(t, m, room[:4], by(0, 3, 1), by(3, 0, 1))
	refuses(t, of(t, by(0, 3, most)), room[:4]...)
	if !slices.Equal(room, kept) {
		t.Errorf("the list, or the room behind it, is changed: %v", room)
	}
	clear(room)
	holds(t, m, by(0, 3, 2), by(3, 0, 1))
	fronts(t, m, at(0, 3), at(3, 0))
}

func TestCopyAndThenChanges(t *testing.T) { // P5.4, P5
	changes := []struct {
		l      []api.Delta
		counts []api.Delta
		front  []api.Time
	}{
		{nil, []api.Delta{by(0, 4, 1), by(2, 2, 2), by(3, 3, -1)}, []api.Time{at(0, 4), at(2, 2)}},
		{[]api.Delta{by(0, 0, 1)}, []api.Delta{by(0, 0, 1), by(0, 4, 1), by(2, 2, 2), by(3, 3, -1)}, []api.Time{at(0, 0)}},
		{[]api.Delta{by(2, 2, -2)}, []api.Delta{by(0, 4, 1), by(3, 3, -1)}, []api.Time{at(0, 4)}},
		{[]api.Delta{by(2, 2, -2), by(3, 3, 2)}, []api.Delta{by(0, 4, 1), by(3, 3, 1)}, []api.Time{at(0, 4), at(3, 3)}},
		{[]api.Delta{by(4, 0, 1)}, []api.Delta{by(0, 4, 1), by(2, 2, 2), by(3, 3, -1), by(4, 0, 1)}, []api.Time{at(0, 4), at(2, 2), at(4, 0)}},
		{[]api.Delta{by(0, 4, -1), by(2, 2, -2), by(3, 3, 1)}, nil, nil},
	}
	for _, one := range changes {
		for _, other := range changes {
			m := of(t, changes[0].counts...)
			c := m.Copy()
			holds(t, c, changes[0].counts...)
			fronts(t, c, changes[0].front...)
			m.Apply(one.l...)
			holds(t, c, changes[0].counts...)
			fronts(t, c, changes[0].front...)
			c.Apply(other.l...)
			holds(t, m, one.counts...)
			fronts(t, m, one.front...)
			holds(t, c, other.counts...)
			fronts(t, c, other.front...)
		}
	}
	c := New().Copy()
	tells(t, c, []api.Delta{by(1, 1, 1)}, by(1, 1, 1))
}

func TestTwoHaveNothingToDoWithEachOther(t *testing.T) { // P5
	m, o := New(), New()
	tells(t, m, []api.Delta{by(1, 1, 1)}, by(1, 1, 1))
	holds(t, o)
	fronts(t, o)
	tells(t, o, []api.Delta{by(0, 0, 1)}, by(0, 0, 1))
	fronts(t, m, at(1, 1))
}

func TestNil(t *testing.T) { // P1
	var m *Multi
	for _, l := range [][]api.Delta{nil, {by(0, 0, 1)}, {by(0, 0, most+1)}, {by(0, 0, most), by(0, 0, most)}} {
		tells(t, m, l)
	}
	holds(t, m)
	fronts(t, m)
	opens(t, m, false, at(0, 0))
	if m.Count(at(0, 0)) != 0 || m.Copy() != nil {
		t.Error("a nil one has something")
	}
}

func TestTimesThatWentAreNotKept(t *testing.T) { // the language's rule 8
	m := New()
	for a := range uint64(50) {
		m.Apply(by(a, 50-a, 1))
		m.Apply(by(a, a, -2), by(7, 7, 0))
	}
	for a := range uint64(50) {
		m.Apply(by(a, 50-a, -1))
		m.Apply(by(a, a, 2))
	}
	if m.tally.Len() != 0 || m.front.Len() != 0 {
		t.Errorf("%v, %v are kept", m.tally.Keys(), m.front.List())
	}
}
