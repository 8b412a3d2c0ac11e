package flow

import (
	"math/big"
	"slices"
	"testing"

	"sluice/api"
	"sluice/draws"
)

// known are the Kinds of instructions of a kind of nodes, by chapter 20's tables.
func known(kind int) (first, behind int) {
	if kind == api.KMap {
		return 1, 11
	}
	return 21, 29
}

// mayStand is the tables' column of Args.
func mayStand(kind int, o api.Op) bool {
	first, behind := known(kind)
	if o.Kind < first || o.Kind >= behind {
		return false
	}
	switch o.Kind {
	case 3:
		return o.Arg > 0
	case 7, 8, 28:
		return o.Arg == 0
	}
	return true
}

// newByWords is P21.1.
func newByWords(n api.Node) api.Errno {
	if n.Kind == api.KJoin || n.Kind == api.KLoop {
		return api.OK
	}
	if n.Kind != api.KMap && n.Kind != api.KFilter {
		return api.ErrKind
	}
	if len(n.Code) > 16 {
		return api.ErrLong
	}
	for _, o := range n.Code {
		if !mayStand(n.Kind, o) {
			return api.ErrCode
		}
	}
	return api.OK
}

// mappedByWords is the first table of chapter 20.
func mappedByWords(l []api.Op, r api.Record) api.Record {
	for _, o := range l {
		was := r
		switch o.Kind {
		case 1:
			r.Key = o.Arg
		case 2:
			r.Key += o.Arg
		case 3:
			r.Key %= o.Arg
		case 4:
			r.Val = o.Arg
		case 5:
			r.Val += o.Arg
		case 6:
			r.Val *= o.Arg
		case 7:
			r = rec(was.Val, was.Key)
		case 8:
			r.Val += was.Key
		case 9:
			r = rec(was.Key+o.Arg, was.Val+o.Arg)
		case 10:
			r = rec(o.Arg, o.Arg)
		}
	}
	return r
}

// passedByWords is the second one.
func passedByWords(l []api.Op, r api.Record) bool {
	for _, o := range l {
		holds := []bool{r.Key == o.Arg, r.Key != o.Arg, r.Key < o.Arg, r.Val == o.Arg, r.Val != o.Arg, r.Val < o.Arg, max(r.Key, r.Val) < o.Arg, r.Key == r.Val}
		if !holds[o.Kind-21] {
			return false
		}
	}
	return true
}

// sumByWords is one number of a loop's time, worked out in numbers of any size; false: it is none, or above the Bound.
func sumByWords(added, number, bound uint64) (uint64, bool) {
	sum := new(big.Int).SetUint64(added)
	sum.Add(sum, new(big.Int).SetUint64(number))
	if !sum.IsUint64() || added != 0 && sum.Cmp(new(big.Int).SetUint64(bound)) > 0 {
		return 0, false
	}
	return sum.Uint64(), true
}

// doneByWords is P21.2.
func doneByWords(n api.Node, u api.Time, r api.Record) (api.Time, api.Record, bool) {
	switch n.Kind {
	case api.KMap:
		return u, mappedByWords(n.Code, r), true
	case api.KFilter:
		if !passedByWords(n.Code, r) {
			return api.Time{}, api.Record{}, false
		}
	case api.KLoop:
		a, aIs := sumByWords(n.By.A, u.A, n.Bound)
		b, bIs := sumByWords(n.By.B, u.B, n.Bound)
		c, cIs := sumByWords(n.By.C, u.C, n.Bound)
		if !aIs || !bIs || !cIs {
			return api.Time{}, api.Record{}, false
		}
		return at(a, b, c), r, true
	}
	return u, r, true
}

// number is any uint64: often a small one, or one at an edge.
func number(next func(below int) int) uint64 {
	switch next(4) {
	case 0:
		return uint64(next(4))
	case 1:
		return edges()[next(len(edges()))]
	case 2:
		return uint64(next(130))
	}
	return uint64(next(1<<22))<<42 | uint64(next(1<<21))<<21 | uint64(next(1<<21))
}

// step is a number of By: mostly 0 or small.
func step(next func(below int) int) uint64 {
	if next(5) > 0 {
		return uint64(max(0, next(6)-2))
	}
	return number(next)
}

func drawnCode(next func(below int) int, kind int) []api.Op {
	many := next(4)
	if next(3) == 0 {
		many = next(19)
	}
	first, behind := known(kind)
	var l []api.Op
	for range many {
		o := op(first+next(behind-first), number(next))
		if !mayStand(kind, o) {
			o.Arg = 1 - min(o.Arg, 1)
		}
		l = append(l, o)
	}
	if many > 0 && next(6) == 0 {
		l[next(many)] = op(next(33)-1, number(next))
	}
	return l
}

// drawnNode has any numbers in the fields that its kind doesn't need.
func drawnNode(next func(below int) int) api.Node {
	n := api.Node{Kind: []int{api.KMap, api.KFilter, api.KJoin, api.KLoop, next(12) - 1}[next(5)], Ins: next(9) - 2, Outs: next(9) - 2, Start: next(2) == 0}
	n.By, n.Bound = by(step(next), step(next), step(next)), number(next)
	n.Code = drawnCode(next, []int{api.KMap, api.KFilter}[next(2)])
	if n.Kind == api.KMap || n.Kind == api.KFilter {
		n.Code = drawnCode(next, n.Kind)
	}
	for range next(3) {
		n.Conns = append(n.Conns, api.Conn{In: next(5) - 1, Out: next(5) - 1, By: by(step(next), 0, 0)})
	}
	return n
}

// drawnTime is often one that a loop sends on just to its Bound, or one beside that.
func drawnTime(next func(below int) int, n api.Node) api.Time {
	one := func(added uint64) uint64 {
		if next(2) == 0 && n.Bound >= added {
			return n.Bound - added + uint64(next(3)) - 1
		}
		return number(next)
	}
	return at(one(n.By.A), one(n.By.B), one(n.By.C))
}

// drawnRecord has often numbers of the instructions, or one beside them.
func drawnRecord(next func(below int) int, n api.Node) api.Record {
	one := func() uint64 {
		if len(n.Code) == 0 || next(3) == 0 {
			return number(next)
		}
		return n.Code[next(len(n.Code))].Arg + uint64(next(3)) - 1
	}
	r := rec(one(), one())
	if next(4) == 0 {
		r.Val = r.Key
	}
	return r
}

func isDone(t *testing.T, f Flow, n api.Node, u api.Time, r api.Record) bool {
	t.Helper()
	later, s, ok := doneByWords(n, u, r)
	if v, q, is := f.Do(u, r); v != later || q != s || is != ok {
		t.Errorf("Do(%v, %v) of %v: %v, %v, %v, want %v, %v, %v", u, r, n, v, q, is, later, s, ok)
	}
	return ok
}

func TestDrawnNodes(t *testing.T) { // P21.1, P21.2, P21.4
	answers := map[api.Errno]int{}
	kept, gone := map[int]int{}, map[int]int{}
	for seed := range 20000 {
		next := draws.Numbers(uint64(seed))
		n := drawnNode(next)
		want := newByWords(n)
		answers[want]++
		if want != api.OK {
			refused(t, n, want)
			continue
		}
		f := made(t, n)
		for range 8 {
			if isDone(t, f, n, drawnTime(next, n), drawnRecord(next, n)) {
				kept[n.Kind]++
			} else {
				gone[n.Kind]++
			}
		}
	}
	if answers[api.OK] < 10000 || min(answers[api.ErrKind], answers[api.ErrLong], answers[api.ErrCode]) < 200 {
		t.Errorf("too few of a kind: %v", answers)
	}
	if min(kept[api.KMap], kept[api.KFilter], kept[api.KJoin], kept[api.KLoop], gone[api.KFilter], gone[api.KLoop]) < 5000 {
		t.Errorf("too few of a kind: %v were sent on, %v let go", kept, gone)
	}
}

func TestEachLoopAtTheEdges(t *testing.T) { // P21.2
	numbers := []uint64{0, 1, half, last}
	for _, a := range numbers {
		for _, b := range numbers {
			for _, c := range numbers {
				for _, bound := range edges() {
					n := loopNode(by(a, b, c), bound)
					f := made(t, n)
					for _, u := range times() {
						isDone(t, f, n, u, rec(u.A, u.B))
					}
				}
			}
		}
	}
}

func TestTimesOnlyGoOn(t *testing.T) { // P21.3
	later := 0
	for seed := range 10000 {
		next := draws.Numbers(uint64(seed))
		n := drawnNode(next)
		f, e := New(n)
		if e != api.OK {
			continue
		}
		for range 8 {
			u := drawnTime(next, n)
			v, _, ok := f.Do(u, drawnRecord(next, n))
			if ok && (u.A > v.A || u.B > v.B || u.C > v.C) {
				t.Errorf("%v: %v becomes %v", n, u, v)
			}
			if ok && u != v {
				later++
				if n.Kind != api.KLoop {
					t.Errorf("%v: %v becomes %v, and it is no loop", n, u, v)
				}
			}
		}
	}
	if later < 1000 {
		t.Errorf("only %d times went on", later)
	}
}

// ask is a record at a time, and what becomes of it.
type ask struct {
	u, later api.Time
	r, s     api.Record
	ok       bool
}

func TestTheSameAlwaysBecomesTheSame(t *testing.T) { // P21.3, P3
	for seed := range 2000 {
		next := draws.Numbers(uint64(seed))
		n := drawnNode(next)
		f, e := New(n)
		if e != api.OK {
			continue
		}
		var l []ask
		for range 12 {
			u, r := drawnTime(next, n), drawnRecord(next, n)
			later, s, ok := f.Do(u, r)
			l = append(l, ask{u: u, later: later, r: r, s: s, ok: ok})
		}
		again := made(t, n)
		for _, one := range slices.Concat(draws.Mixed(l, next), l, draws.Mixed(l, next)) {
			for _, g := range []Flow{f, f, again} {
				if later, s, ok := g.Do(one.u, one.r); later != one.later || s != one.s || ok != one.ok {
					t.Fatalf("%v: Do(%v, %v) is %v, %v, %v, was %v, %v, %v", n, one.u, one.r, later, s, ok, one.later, one.s, one.ok)
				}
			}
		}
	}
}
