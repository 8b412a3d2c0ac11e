package code

import (
	"math/big"
	"slices"
	"testing"

	"sluice/api"
	"sluice/draws"
)

// n is a number of any size.
type n = *big.Int

// row is a line of one of the chapter's tables: which Args may be, and what it does or when it holds.
type row struct {
	may  func(arg uint64) bool
	does func(key, val, arg n) (n, n)
	is   func(key, val, arg n) bool
}

func each(uint64) bool       { return true }
func zero(arg uint64) bool   { return arg == 0 }
func above0(arg uint64) bool { return arg > 0 }

func sum(x, y n) n     { return new(big.Int).Add(x, y) }
func product(x, y n) n { return new(big.Int).Mul(x, y) }
func left(x, y n) n    { return new(big.Int).Mod(x, y) }

// table is that of a kind of nodes, by the instruction's Kind.
func table(kind int) map[int]row {
	if kind == api.KMap {
		return map[int]row{
			1:  {may: each, does: func(k, v, a n) (n, n) { return a, v }},
			2:  {may: each, does: func(k, v, a n) (n, n) { return sum(k, a), v }},
			3:  {may: above0, does: func(k, v, a n) (n, n) { return left(k, a), v }},
			4:  {may: each, does: func(k, v, a n) (n, n) { return k, a }},
			5:  {may: each, does: func(k, v, a n) (n, n) { return k, sum(v, a) }},
			6:  {may: each, does: func(k, v, a n) (n, n) { return k, product(v, a) }},
			7:  {may: zero, does: func(k, v, a n) (n, n) { return v, k }},
			8:  {may: zero, does: func(k, v, a n) (n, n) { return k, sum(v, k) }},
			9:  {may: each, does: func(k, v, a n) (n, n) { return sum(k, a), sum(v, a) }},
			10: {may: each, does: func(k, v, a n) (n, n) { return a, a }},
		}
	}
	return map[int]row{
		21: {may: each, is: func(k, v, a n) bool { return k.Cmp(a) == 0 }},
		22: {may: each, is: func(k, v, a n) bool { return k.Cmp(a) != 0 }},
		23: {may: each, is: func(k, v, a n) bool { return k.Cmp(a) < 0 }},
		24: {may: each, is: func(k, v, a n) bool { return v.Cmp(a) == 0 }},
		25: {may: each, is: func(k, v, a n) bool { return v.Cmp(a) != 0 }},
		26: {may: each, is: func(k, v, a n) bool { return v.Cmp(a) < 0 }},
		27: {may: each, is: func(k, v, a n) bool { return k.Cmp(a) < 0 && v.Cmp(a) < 0 }},
		28: {may: zero, is: func(k, v, a n) bool { return k.Cmp(v) == 0 }},
	}
}

// checkedByTable is P20.1.
func checkedByTable(kind int, l []api.Op) api.Errno {
	if kind != api.KMap && kind != api.KFilter {
		return api.ErrKind
	}
	if len(l) > 16 {
		return api.ErrLong
	}
	rows := table(kind)
	for _, o := range l {
		if line, is := rows[o.Kind]; !is || !line.may(o.Arg) {
			return api.ErrCode
		}
	}
	return api.OK
}

func whole(x uint64) n { return new(big.Int).SetUint64(x) }

// mappedByTable is P20.2: the rest by 2^64 is taken behind each instruction.
func mappedByTable(l []api.Op, r api.Record) api.Record {
	if checkedByTable(api.KMap, l) != api.OK {
		return r
	}
	rows := table(api.KMap)
	around := new(big.Int).Lsh(big.NewInt(1), 64)
	for _, o := range l {
		key, val := rows[o.Kind].does(whole(r.Key), whole(r.Val), whole(o.Arg))
		r = rec(left(key, around).Uint64(), left(val, around).Uint64())
	}
	return r
}

// passedByTable is P20.3.
func passedByTable(l []api.Op, r api.Record) bool {
	if checkedByTable(api.KFilter, l) != api.OK {
		return false
	}
	rows := table(api.KFilter)
	for _, o := range l {
		if !rows[o.Kind].is(whole(r.Key), whole(r.Val), whole(o.Arg)) {
			return false
		}
	}
	return true
}

// edges are the numbers at which sums, products, rests and comparisons turn.
func edges() []uint64 { return []uint64{0, 1, 2, half - 1, half, half + 1, last - 1, last} }

func TestEachInstructionAtTheEdges(t *testing.T) { // P20.1, P20.2, P20.3
	for kind := -1; kind <= 30; kind++ {
		for _, arg := range edges() {
			l := ops(op(kind, arg))
			for _, of := range []int{api.KMap, api.KFilter} {
				isChecked(t, of, l, checkedByTable(of, l))
			}
			for _, key := range edges() {
				for _, val := range edges() {
					r := rec(key, val)
					isMapped(t, l, r, mappedByTable(l, r))
					passes(t, l, r, passedByTable(l, r))
				}
			}
		}
	}
}

// number is any uint64: often a small one, or one at an edge.
func number(next func(below int) int) uint64 {
	switch next(4) {
	case 0:
		return uint64(next(4))
	case 1:
		return edges()[next(len(edges()))]
	}
	return uint64(next(1<<22))<<42 | uint64(next(1<<21))<<21 | uint64(next(1<<21))
}

// near is a record whose numbers are often those of the instructions, or one beside them, so that comparisons turn either way.
func near(next func(below int) int, l []api.Op) api.Record {
	one := func() uint64 {
		if len(l) == 0 || next(3) == 0 {
			return number(next)
		}
		return l[next(len(l))].Arg + uint64(next(3)) - 1
	}
	r := rec(one(), one())
	if next(4) == 0 {
		r.Val = r.Key
	}
	return r
}

// good is so many instructions that a kind may have, in any order.
func good(next func(below int) int, kind, many int) []api.Op {
	rows := table(kind)
	var l []api.Op
	for range many {
		o := op(1+next(10), number(next))
		if kind == api.KFilter {
			o.Kind = 21 + next(8)
		}
		if !rows[o.Kind].may(o.Arg) {
			o.Arg = 1 - min(o.Arg, 1)
		}
		l = append(l, o)
	}
	return l
}

// drawnCode is instructions that mostly a kind may have; sometimes one or two are any, and sometimes there are too many.
func drawnCode(next func(below int) int, kind int) []api.Op {
	l := good(next, kind, next(20))
	if len(l) > 0 && next(4) == 0 {
		for range 1 + next(2) {
			l[next(len(l))] = op(next(33)-1, number(next))
		}
	}
	return l
}

func TestDrawnMaps(t *testing.T) { // P20.1, P20.2
	answers := map[api.Errno]int{}
	for seed := range 20000 {
		next := draws.Numbers(uint64(seed))
		l := drawnCode(next, api.KMap)
		e := checkedByTable(api.KMap, l)
		answers[e]++
		isChecked(t, api.KMap, l, e)
		isChecked(t, api.KFilter, l, checkedByTable(api.KFilter, l))
		r := near(next, l)
		isMapped(t, l, r, mappedByTable(l, r))
		passes(t, l, r, passedByTable(l, r))
	}
	if answers[api.OK] < 5000 || answers[api.ErrLong] < 500 || answers[api.ErrCode] < 500 {
		t.Errorf("too few of a kind: %v", answers)
	}
}

func TestDrawnFilters(t *testing.T) { // P20.1, P20.3
	answers := map[api.Errno]int{}
	passed, not := 0, 0
	for seed := range 20000 {
		next := draws.Numbers(uint64(seed))
		l := drawnCode(next, api.KFilter)
		if next(2) == 0 { // of few instructions all hold more often
			l = l[:min(len(l), 2)]
		}
		e := checkedByTable(api.KFilter, l)
		answers[e]++
		isChecked(t, api.KFilter, l, e)
		isChecked(t, api.KMap, l, checkedByTable(api.KMap, l))
		r := near(next, l)
		want := passedByTable(l, r)
		passes(t, l, r, want)
		isMapped(t, l, r, mappedByTable(l, r))
		switch {
		case want && len(l) > 0:
			passed++
		case e == api.OK:
			not++
		}
	}
	if answers[api.OK] < 5000 || answers[api.ErrLong] < 500 || answers[api.ErrCode] < 500 || passed < 1000 || not < 1000 {
		t.Errorf("too few of a kind: %v, %d passed, %d did not", answers, passed, not)
	}
}

func TestOneBehindTheOther(t *testing.T) { // P20.4
	for seed := range 10000 {
		next := draws.Numbers(uint64(seed))
		many := next(api.MaxCode + 1)
		l, m := good(next, api.KMap, many), good(next, api.KMap, next(api.MaxCode+1-many))
		both := slices.Concat(l, m)
		r := near(next, both)
		isMapped(t, both, r, Map(m, Map(l, r)))
		one := r
		for _, o := range both {
			one = Map(ops(o), one)
		}
		isMapped(t, both, r, one)
	}
}

func TestBothTogether(t *testing.T) { // P20.4
	passed := 0
	for seed := range 10000 {
		next := draws.Numbers(uint64(seed))
		many := next(4)
		l, m := good(next, api.KFilter, many), good(next, api.KFilter, next(3))
		if seed%2 == 0 {
			many = next(api.MaxCode + 1)
			l, m = good(next, api.KFilter, many), good(next, api.KFilter, api.MaxCode-many)
		}
		both := slices.Concat(l, m)
		r := near(next, both)
		want := Pass(l, r) && Pass(m, r)
		passes(t, both, r, want)
		passes(t, slices.Concat(m, l), r, want)
		passes(t, draws.Mixed(both, next), r, want)
		if want {
			passed++
		}
	}
	if passed < 1000 || passed > 9000 {
		t.Errorf("%d of 10000 passed", passed)
	}
}

func TestTogetherThereMayBeTooMany(t *testing.T) { // P20.4 of codes that may be alone, and not together: P20.2, P20.3
	r := rec(3, 4)
	l, m := repeated(op(9, 1), 9), repeated(op(9, 1), 8)
	isMapped(t, l, r, rec(12, 13))
	isMapped(t, m, r, rec(11, 12))
	isMapped(t, slices.Concat(l, m), r, r)
	isMapped(t, slices.Concat(l, m[:7]), r, rec(19, 20))
	l, m = repeated(op(23, 4), 9), repeated(op(23, 4), 8)
	passes(t, l, r, true)
	passes(t, m, r, true)
	passes(t, slices.Concat(l, m), r, false)
	passes(t, slices.Concat(l, m[:7]), r, true)
}

func TestThoseWithTwoPartsAreTheirParts(t *testing.T) { // P20.4
	next := draws.Numbers(9)
	tried := func(arg uint64, r api.Record) {
		isMapped(t, ops(op(9, arg)), r, Map(ops(op(2, arg), op(5, arg)), r))
		isMapped(t, ops(op(10, arg)), r, Map(ops(op(1, arg), op(4, arg)), r))
		passes(t, ops(op(27, arg)), r, Pass(ops(op(23, arg), op(26, arg)), r))
		passes(t, ops(op(27, arg)), r, Pass(ops(op(23, arg)), r) && Pass(ops(op(26, arg)), r))
	}
	for _, arg := range edges() {
		for _, key := range edges() {
			for _, val := range edges() {
				tried(arg, rec(key, val))
			}
		}
	}
	for range 5000 {
		arg := number(next)
		tried(arg, near(next, ops(op(27, arg))))
	}
}
