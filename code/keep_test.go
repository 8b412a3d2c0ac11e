package code

import (
	"slices"
	"sync"
	"testing"

	"sluice/api"
	"sluice/draws"
)

// given are lists with room behind them, of both kinds, that may be and that may not.
func given() [][]api.Op {
	all := [][]api.Op{mapOps(), filterOps(), repeated(op(9, 1), 16), repeated(op(9, 1), 17), repeated(op(22, 0), 16), repeated(op(22, 0), 17), ops(op(9, 1), op(3, 0)), ops(op(22, 0), op(28, 1)), {}, ops(op(0, 0))}
	for seed := range 50 {
		next := draws.Numbers(uint64(seed))
		all = append(all, drawnCode(next, api.KMap), drawnCode(next, api.KFilter))
	}
	for i, l := range all {
		room := append(slices.Clone(l), op(-7, 7), op(1, 77), op(21, 777))
		all[i] = room[:len(l)]
	}
	return all
}

func TestWhatIsHandedInStaysAsItWas(t *testing.T) { // P2
	for i, l := range given() {
		room := l[:len(l)+3]
		was := slices.Clone(room)
		for _, kind := range []int{api.KMap, api.KFilter, api.KSum} {
			Check(kind, l...)
		}
		Map(l, rec(3, 4))
		Pass(l, rec(3, 4))
		if !slices.Equal(room, was) {
			t.Errorf("list %d is %v, was %v", i, room, was)
		}
	}
}

func TestRoomBehindAListIsNotLookedAt(t *testing.T) { // P3: not on a capacity
	r := rec(3, 4)
	for _, l := range given() {
		alone := slices.Clip(slices.Clone(l))
		for _, kind := range []int{api.KMap, api.KFilter, api.KSum} {
			isChecked(t, kind, l, Check(kind, alone...))
		}
		isMapped(t, l, r, Map(alone, r))
		passes(t, l, r, Pass(alone, r))
	}
}

func TestNothingIsKept(t *testing.T) { // P2, P3, P5: a list that is written over behind a call is told as it is then
	l := ops(op(2, 1), op(6, 2))
	f := ops(op(21, 3))
	isMapped(t, l, rec(3, 4), rec(4, 8))
	passes(t, f, rec(3, 4), true)
	isChecked(t, api.KMap, l, api.OK)
	l[0], f[0] = op(1, 9), op(21, 4)
	isMapped(t, l, rec(3, 4), rec(9, 8))
	passes(t, f, rec(3, 4), false)
	l[1], f[0] = op(3, 0), op(20, 3)
	isMapped(t, l, rec(3, 4), rec(3, 4))
	passes(t, f, rec(3, 4), false)
	isChecked(t, api.KMap, l, api.ErrCode)
	isChecked(t, api.KFilter, f, api.ErrCode)
	l[1], f[0] = op(6, 2), op(21, 3)
	isMapped(t, l, rec(3, 4), rec(9, 8))
	passes(t, f, rec(3, 4), true)
	isChecked(t, api.KMap, l, api.OK)
	isChecked(t, api.KFilter, f, api.OK)
}

// told is all that is told of a list.
type told struct {
	asMap, asFilter, asSum api.Errno
	mapped                 api.Record
	passed                 bool
}

func toldOf(l []api.Op) told {
	return told{Check(api.KMap, l...), Check(api.KFilter, l...), Check(api.KSum, l...), Map(l, rec(3, 4)), Pass(l, rec(3, 4))}
}

func TestTheSameIsToldEachTime(t *testing.T) { // P3
	lists := given()
	var want []told
	for _, l := range lists {
		want = append(want, toldOf(l))
	}
	for i := range lists { // and in another order
		at := len(lists) - 1 - i
		if now := toldOf(lists[at]); now != want[at] {
			t.Errorf("list %d: %v, was %v", at, now, want[at])
		}
	}
}

func TestManyAskAtOnce(t *testing.T) { // P3
	lists := given()
	var want []told
	for _, l := range lists {
		want = append(want, toldOf(l))
	}
	var group sync.WaitGroup
	for range 8 {
		group.Go(func() {
			for i, l := range lists {
				if now := toldOf(l); now != want[i] {
					t.Errorf("list %d: %v, want %v", i, now, want[i])
				}
			}
		})
	}
	group.Wait()
}
