package ledger

import (
	"slices"
	"sync"
	"testing"

	"sluice/api"
)

func TestANilOne(t *testing.T) { // P1
	var l *Ledger
	for range 2 {
		for _, s := range anyStamps() {
			makes(t, l, s)
			uses(t, l, s, s)
			sumOf(t, l, s, 0)
		}
		holds(t, l)
		l.Clear()
		if l.Copy() != nil {
			t.Error("Copy of a nil one is one")
		}
	}
}

// begin is one with the sums of begun, and one stamp whose sum is 0 again.
func begin(t *testing.T) *Ledger {
	t.Helper()
	l := New()
	makes(t, l, at(2, 1), at(2, 1), at(1, 0, 7), at(3))
	uses(t, l, at(0, 4), at(3), at(2, 0, 9))
	return l
}

func begun() []api.Change {
	return []api.Change{change(-1, at(0, 4)), change(1, at(1, 0, 7)), change(-1, at(2, 0, 9)), change(2, at(2, 1))}
}

func stampsOf(l []api.Change) []api.Stamp {
	var stamps []api.Stamp
	for _, c := range l {
		stamps = append(stamps, c.S)
	}
	return stamps
}

func TestWhatIsAnsweredIsNewMemory(t *testing.T) { // P14.3, P2
	l := begin(t)
	keys, otherKeys := l.Keys(), l.Keys()
	changes, otherChanges := l.Changes(), l.Changes()
	grownKeys, grownChanges := append(keys, at(77)), append(changes, change(7, at(77)))
	for _, k := range [][]api.Stamp{keys[:cap(keys)], grownKeys[:cap(grownKeys)]} {
		for i := range k {
			k[i] = at(99, 99)
		}
	}
	for _, c := range [][]api.Change{changes[:cap(changes)], grownChanges[:cap(grownChanges)]} {
		for i := range c {
			c[i] = change(99, at(99, 99))
		}
	}
	holds(t, l, begun()...)
	sumOf(t, l, at(77), 0)
	sumOf(t, l, at(99, 99), 0)
	// Neither do answers see what is written later.
	makes(t, l, at(0, 4), at(1), at(2, 1))
	l.Clear()
	makes(t, l, at(5))
	if !slices.Equal(otherKeys, stampsOf(begun())) || !slices.Equal(otherChanges, begun()) {
		t.Errorf("other answers have changed: %v, %v", otherKeys, otherChanges)
	}
	holds(t, l, change(1, at(5)))
}

func TestAnswersOfOneThatIsEmpty(t *testing.T) { // P14.3, P2
	l := New()
	_ = append(l.Keys(), at(7))
	_ = append(l.Changes(), change(7, at(7)))
	holds(t, l)
	sumOf(t, l, at(7), 0)
}

func TestCopyAndThenCalls(t *testing.T) { // P14.4, P5
	b := begun()
	calls := []struct {
		act  func(l *Ledger)
		want []api.Change
	}{
		{func(l *Ledger) {}, b},
		{func(l *Ledger) { makes(t, l, at(2, 1)) }, []api.Change{b[0], b[1], b[2], change(3, at(2, 1))}},
		{func(l *Ledger) { uses(t, l, at(1, 0, 7)) }, []api.Change{b[0], b[2], b[3]}},
		{func(l *Ledger) { makes(t, l, at(3)) }, append(begun(), change(1, at(3)))},
		{func(l *Ledger) { uses(t, l, at(-1)) }, slices.Concat([]api.Change{change(-1, at(-1))}, b)},
		{func(l *Ledger) { makes(t, l, at(0, 4), at(0, 4), at(2, 0, 9)) }, []api.Change{change(1, at(0, 4)), b[1], b[3]}},
		{func(l *Ledger) { l.Clear() }, nil},
		{func(l *Ledger) { l.Clear(); makes(t, l, at(2, 1)) }, []api.Change{change(1, at(2, 1))}},
		{func(l *Ledger) { makes(t, l, at(6)); uses(t, l, at(6)) }, b},
	}
	for _, one := range calls {
		for _, other := range calls {
			l := begin(t)
			c := l.Copy()
			holds(t, c, b...)
			one.act(l)
			holds(t, c, b...)
			other.act(c)
			holds(t, l, one.want...)
			holds(t, c, other.want...)
		}
	}
}

func TestCopyOfOneThatIsEmpty(t *testing.T) { // P14.4
	l := begin(t)
	l.Clear()
	for _, empty := range []*Ledger{New(), l} {
		c := empty.Copy()
		if c == nil {
			t.Fatal("Copy is nil")
		}
		holds(t, c)
		makes(t, c, at(2), at(1))
		holds(t, empty)
		holds(t, c, change(1, at(1)), change(1, at(2)))
	}
}

func TestCopyAtTheEndsOfTheRange(t *testing.T) { // P14.4, P14.2
	l := brought(t, change(most, at(1)), change(-most, at(2)))
	c := l.Copy()
	if c.Make(at(1)) != api.ErrRange || c.Use(at(2)) != api.ErrRange {
		t.Error("the copy goes beyond the ends")
	}
	uses(t, c, at(1))
	makes(t, c, at(2))
	if l.Make(at(1)) != api.ErrRange || l.Use(at(2)) != api.ErrRange {
		t.Error("the copy's writings are seen")
	}
	holds(t, l, change(most, at(1)), change(-most, at(2)))
	holds(t, c, change(most-1, at(1)), change(1-most, at(2)))
}

func TestTwoHaveNothingToDoWithEachOther(t *testing.T) { // P5
	l, m := New(), New()
	makes(t, l, at(1), at(2))
	holds(t, m)
	uses(t, m, at(1), at(0))
	holds(t, l, change(1, at(1)), change(1, at(2)))
	l.Clear()
	holds(t, m, change(-1, at(0)), change(-1, at(1)))
}

func TestManyAtOnce(t *testing.T) { // P3, P5
	shared := begin(t)
	var group sync.WaitGroup
	for range 8 {
		group.Go(func() {
			own := shared.Copy()
			makes(t, own, at(0, 4), at(9))
			uses(t, own, at(2, 1))
			holds(t, own, change(1, at(1, 0, 7)), change(-1, at(2, 0, 9)), change(1, at(2, 1)), change(1, at(9)))
			own.Clear()
			holds(t, own)
			holds(t, shared, begun()...)
		})
	}
	group.Wait()
}

func TestStampsThatWentAreNotKept(t *testing.T) { // the language's rule 8
	l := New()
	for i := range 50 {
		makes(t, l, at(i, uint64(i)))
		uses(t, l, at(i, 7, 7))
	}
	for i := range 50 {
		uses(t, l, at(i, uint64(i)))
		makes(t, l, at(i, 7, 7))
	}
	if l.tally.Len() != 0 {
		t.Errorf("%v are kept", l.tally.Keys())
	}
}
