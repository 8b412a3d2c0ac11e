package code

import (
	"math"
	"slices"
	"testing"

	"sluice/api"
)

const (
	last = math.MaxUint64
	half = 1 << 63
)

func op(kind int, arg uint64) api.Op { return api.Op{Kind: kind, Arg: arg} }

func ops(l ...api.Op) []api.Op { return l }

func rec(key, val uint64) api.Record { return api.Record{Key: key, Val: val} }

// repeated is one instruction so many times.
func repeated(o api.Op, many int) []api.Op { return slices.Repeat(ops(o), many) }

// mapOps and filterOps are one instruction of each Kind of the chapter's tables, with an Arg that it may have.
func mapOps() []api.Op {
	return ops(op(1, 9), op(2, 9), op(3, 9), op(4, 9), op(5, 9), op(6, 9), op(7, 0), op(8, 0), op(9, 9), op(10, 9))
}

func filterOps() []api.Op {
	return ops(op(21, 9), op(22, 9), op(23, 9), op(24, 9), op(25, 9), op(26, 9), op(27, 9), op(28, 0))
}

// noKinds are Kinds that stand in neither table.
func noKinds() []int {
	return []int{0, 11, 12, 15, 19, 20, 29, 30, 37, 31, 38, -1, -2, -9, -21, -28, 255, 256 + 1, 256 + 21, 1<<16 + 1, 1<<16 + 21, math.MaxInt32, math.MinInt32, math.MaxInt, math.MaxInt - 1, math.MinInt, math.MinInt + 1, math.MinInt + 21}
}

func args() []uint64 {
	return []uint64{0, 1, 2, 3, 9, 1<<32 - 1, 1 << 32, half - 1, half, half + 1, last - 1, last}
}

func isChecked(t *testing.T, kind int, l []api.Op, want api.Errno) {
	t.Helper()
	if e := Check(kind, l...); e != want {
		t.Errorf("Check(%d, %v) = %d, want %d", kind, l, e, want)
	}
}

func isMapped(t *testing.T, l []api.Op, r, want api.Record) {
	t.Helper()
	if m := Map(l, r); m != want {
		t.Errorf("Map(%v, %v) = %v, want %v", l, r, m, want)
	}
}

func passes(t *testing.T, l []api.Op, r api.Record, want bool) {
	t.Helper()
	if ok := Pass(l, r); ok != want {
		t.Errorf("Pass(%v, %v) = %v, want %v", l, r, ok, want)
	}
}

func TestTheChaptersExamples(t *testing.T) { // P20.1, P20.2, P20.3
	isMapped(t, nil, rec(3, 4), rec(3, 4))
	isMapped(t, ops(op(1, 9), op(5, 1)), rec(3, 4), rec(9, 5))
	isMapped(t, ops(op(2, last)), rec(0, 4), rec(last, 4))
	isMapped(t, ops(op(3, 5)), rec(13, 4), rec(3, 4))
	isMapped(t, ops(op(6, last)), rec(0, 2), rec(0, last-1))
	isMapped(t, ops(op(7, 0), op(8, 0)), rec(3, 4), rec(4, 7))
	isMapped(t, ops(op(9, 2)), rec(last, 1), rec(1, 3))
	isMapped(t, ops(op(10, 6)), rec(3, 4), rec(6, 6))

	passes(t, nil, rec(0, 0), true)
	passes(t, ops(op(21, 3), op(26, 5)), rec(3, 4), true)
	passes(t, ops(op(27, 4)), rec(3, 4), false)
	passes(t, ops(op(28, 0)), rec(7, 7), true)

	isChecked(t, api.KMap, ops(op(3, 0)), api.ErrCode)
	isChecked(t, api.KMap, ops(op(7, 1)), api.ErrCode)
	isChecked(t, api.KMap, ops(op(21, 0)), api.ErrCode)
	isChecked(t, api.KFilter, ops(op(1, 0)), api.ErrCode)
	isChecked(t, api.KMap, ops(op(0, 0)), api.ErrCode)
	isChecked(t, api.KSum, nil, api.ErrKind)
	isChecked(t, api.KFilter, repeated(op(21, 0), 17), api.ErrLong)
	isChecked(t, api.KFilter, repeated(op(21, 0), 16), api.OK)

	isMapped(t, ops(op(3, 0)), rec(13, 4), rec(13, 4))
	passes(t, ops(op(1, 0)), rec(0, 0), false)
}

// codes are lists that a map may have, a filter may have, both or neither, with 0, 1, 16, 17 and more instructions.
func codes() [][]api.Op {
	l := [][]api.Op{nil, {}}
	for _, o := range ops(op(1, 0), op(10, last), op(21, 0), op(27, last), op(0, 0), op(3, 0), op(28, 1), op(-1, 0)) {
		for _, many := range []int{1, 2, 15, 16, 17, 18, 1000} {
			l = append(l, repeated(o, many))
		}
	}
	return l
}

func TestOnlyMapsAndFiltersHaveCode(t *testing.T) { // P20.1, P4: the kind is asked first
	kinds := []int{api.KInput, api.KJoin, api.KLoop, api.KSum, api.KProbe, api.KFree, 0, 9, 10, -1, -2, -3, 21, 256 + api.KMap, 1<<16 + api.KFilter, math.MaxInt32, math.MinInt32, math.MaxInt, math.MaxInt - 1, math.MinInt, math.MinInt + api.KMap, math.MinInt + api.KFilter}
	for _, kind := range kinds {
		for _, l := range codes() {
			isChecked(t, kind, l, api.ErrKind)
		}
	}
	isChecked(t, api.KMap, nil, api.OK)
	isChecked(t, api.KFilter, nil, api.OK)
	isChecked(t, api.KMap, ops(), api.OK)
	isChecked(t, api.KFilter, ops(), api.OK)
}

func TestHowManyInstructionsMayBe(t *testing.T) { // P20.1, P4: how many there are is asked ahead of what they are
	good := map[int][]api.Op{api.KMap: mapOps(), api.KFilter: filterOps()}
	for kind, l := range good {
		for _, o := range l {
			for many := range api.MaxCode + 1 {
				isChecked(t, kind, repeated(o, many), api.OK)
			}
			for _, many := range []int{17, 18, 32, 256, 1 << 16} {
				isChecked(t, kind, repeated(o, many), api.ErrLong)
			}
		}
	}
	for kind := range good {
		for _, bad := range ops(op(0, 0), op(11, 0), op(20, 0), op(29, 0), op(-1, 0), op(3, 0), op(7, 1), op(28, 1)) {
			isChecked(t, kind, repeated(bad, 16), api.ErrCode)
			isChecked(t, kind, repeated(bad, 17), api.ErrLong)
		}
		isChecked(t, kind, make([]api.Op, 1<<16), api.ErrLong)
	}
	isChecked(t, api.KMap, append(repeated(op(1, 0), 16), op(0, 0)), api.ErrLong)
	isChecked(t, api.KFilter, append(repeated(op(21, 0), 16), op(0, 0)), api.ErrLong)
}

func TestEachKindOfBothTables(t *testing.T) { // P20.1
	for _, o := range mapOps() {
		isChecked(t, api.KMap, ops(o), api.OK)
		isChecked(t, api.KFilter, ops(o), api.ErrCode)
	}
	for _, o := range filterOps() {
		isChecked(t, api.KFilter, ops(o), api.OK)
		isChecked(t, api.KMap, ops(o), api.ErrCode)
	}
	for _, kind := range noKinds() {
		for _, arg := range args() {
			isChecked(t, api.KMap, ops(op(kind, arg)), api.ErrCode)
			isChecked(t, api.KFilter, ops(op(kind, arg)), api.ErrCode)
		}
	}
	isChecked(t, api.KMap, mapOps(), api.OK)
	isChecked(t, api.KFilter, filterOps(), api.OK)
}

func TestABadInstructionAnywhere(t *testing.T) { // P20.1, P20.2, P20.3
	r := rec(13, 4)
	for many := 1; many <= api.MaxCode; many++ {
		for at := range many {
			for _, bad := range ops(op(0, 0), op(11, 0), op(20, 0), op(29, 0), op(-1, 0), op(math.MinInt, 0), op(math.MaxInt, 0), op(3, 0), op(7, 1), op(8, last), op(28, 1), op(28, half), op(7, half)) {
				l := repeated(op(9, 1), many)
				l[at] = bad
				isChecked(t, api.KMap, l, api.ErrCode)
				isMapped(t, l, r, r)
				for _, holding := range ops(op(22, 0), op(22, 13)) { // all the others hold, or none does
					l = repeated(holding, many)
					l[at] = bad
					isChecked(t, api.KFilter, l, api.ErrCode)
					passes(t, l, r, false)
				}
			}
			l := repeated(op(9, 1), many)
			l[at] = op(22, 0)
			isChecked(t, api.KMap, l, api.ErrCode)
			isMapped(t, l, r, r)
			l = repeated(op(22, 0), many)
			l[at] = op(9, 1)
			isChecked(t, api.KFilter, l, api.ErrCode)
			passes(t, l, r, false)
		}
	}
}

func TestEachArg(t *testing.T) { // P20.1
	without := []int{7, 8, 28}
	for _, o := range slices.Concat(mapOps(), filterOps()) {
		kind := api.KMap
		if o.Kind > 20 {
			kind = api.KFilter
		}
		for _, arg := range args() {
			want := api.OK
			if o.Kind == 3 && arg == 0 || slices.Contains(without, o.Kind) && arg != 0 {
				want = api.ErrCode
			}
			isChecked(t, kind, ops(op(o.Kind, arg)), want)
		}
	}
	isChecked(t, api.KMap, ops(op(3, 1), op(3, last), op(7, 0), op(8, 0)), api.OK)
	isChecked(t, api.KFilter, ops(op(28, 0), op(27, 0), op(27, 1), op(27, last)), api.OK)
}

func TestMapOfEachInstruction(t *testing.T) { // P20.2: worked out by hand
	for _, c := range []struct {
		o       api.Op
		r, want api.Record
	}{
		{op(1, 0), rec(1, half), rec(0, half)},
		{op(1, last), rec(0, 0), rec(last, 0)},
		{op(1, half), rec(half, 1), rec(half, 1)},
		{op(2, 0), rec(last, 1), rec(last, 1)},
		{op(2, 1), rec(last, 1), rec(0, 1)},
		{op(2, half), rec(half, last), rec(0, last)},
		{op(2, last), rec(last, 0), rec(last-1, 0)},
		{op(2, half), rec(last, 0), rec(half-1, 0)},
		{op(3, 1), rec(last, 5), rec(0, 5)},
		{op(3, 1), rec(0, last), rec(0, last)},
		{op(3, last), rec(last, last), rec(0, last)},
		{op(3, last), rec(last-1, 1), rec(last-1, 1)},
		{op(3, half), rec(last, 0), rec(half-1, 0)},
		{op(3, half), rec(half, 0), rec(0, 0)},
		{op(3, half+1), rec(half, 0), rec(half, 0)},
		{op(4, 0), rec(half, 1), rec(half, 0)},
		{op(4, last), rec(0, 0), rec(0, last)},
		{op(5, 0), rec(1, last), rec(1, last)},
		{op(5, 1), rec(1, last), rec(1, 0)},
		{op(5, half), rec(last, half), rec(last, 0)},
		{op(5, last), rec(0, last), rec(0, last-1)},
		{op(6, 0), rec(last, last), rec(last, 0)},
		{op(6, 1), rec(0, half), rec(0, half)},
		{op(6, 2), rec(1, half), rec(1, 0)},
		{op(6, 3), rec(1, half), rec(1, half)},
		{op(6, half), rec(half, half), rec(half, 0)},
		{op(6, half), rec(0, last), rec(0, half)},
		{op(6, last), rec(0, last), rec(0, 1)},
		{op(6, last), rec(0, 1), rec(0, last)},
		{op(7, 0), rec(0, last), rec(last, 0)},
		{op(7, 0), rec(half, 1), rec(1, half)},
		{op(8, 0), rec(0, last), rec(0, last)},
		{op(8, 0), rec(last, 0), rec(last, last)},
		{op(8, 0), rec(1, last), rec(1, 0)},
		{op(8, 0), rec(half, half), rec(half, 0)},
		{op(8, 0), rec(last, last), rec(last, last-1)},
		{op(9, 0), rec(1, half), rec(1, half)},
		{op(9, 1), rec(last, 0), rec(0, 1)},
		{op(9, 1), rec(0, last), rec(1, 0)},
		{op(9, half), rec(half, last), rec(0, half-1)},
		{op(9, last), rec(1, last), rec(0, last-1)},
		{op(10, 0), rec(1, half), rec(0, 0)},
		{op(10, last), rec(0, 1), rec(last, last)},
	} {
		isMapped(t, ops(c.o), c.r, c.want)
	}
}

func TestPassOfEachInstruction(t *testing.T) { // P20.3: worked out by hand
	for _, c := range []struct {
		o    api.Op
		r    api.Record
		want bool
	}{
		{op(21, 0), rec(0, 1), true}, {op(21, 0), rec(1, 0), false}, {op(21, last), rec(last, 0), true}, {op(21, half), rec(half-1, half), false},
		{op(22, 0), rec(0, 1), false}, {op(22, 0), rec(1, 0), true}, {op(22, last), rec(last, 0), false}, {op(22, half), rec(half-1, half), true},
		{op(23, 0), rec(0, 0), false}, {op(23, 1), rec(0, 1), true}, {op(23, 1), rec(1, 0), false}, {op(23, half), rec(half-1, last), true}, {op(23, half), rec(half, 0), false}, {op(23, 1), rec(last, 0), false}, {op(23, last), rec(1, last), true}, {op(23, last), rec(last-1, last), true}, {op(23, last), rec(last, 0), false},
		{op(24, 0), rec(1, 0), true}, {op(24, 0), rec(0, 1), false}, {op(24, last), rec(0, last), true}, {op(24, half), rec(half, half-1), false},
		{op(25, 0), rec(1, 0), false}, {op(25, 0), rec(0, 1), true}, {op(25, last), rec(0, last), false}, {op(25, half), rec(half, half-1), true},
		{op(26, 0), rec(0, 0), false}, {op(26, 1), rec(1, 0), true}, {op(26, 1), rec(0, 1), false}, {op(26, half), rec(last, half-1), true}, {op(26, half), rec(0, half), false}, {op(26, 1), rec(0, last), false}, {op(26, last), rec(last, 1), true}, {op(26, last), rec(last, last-1), true}, {op(26, last), rec(0, last), false},
		{op(27, 0), rec(0, 0), false}, {op(27, 1), rec(0, 0), true}, {op(27, 1), rec(1, 0), false}, {op(27, 1), rec(0, 1), false}, {op(27, half), rec(half-1, half-1), true}, {op(27, half), rec(half, 0), false}, {op(27, half), rec(0, half), false}, {op(27, last), rec(last-1, last-1), true}, {op(27, last), rec(last, 0), false}, {op(27, last), rec(0, last), false}, {op(27, last), rec(last, last), false},
		{op(28, 0), rec(0, 0), true}, {op(28, 0), rec(last, last), true}, {op(28, 0), rec(half, half), true}, {op(28, 0), rec(0, 1), false}, {op(28, 0), rec(1, 0), false}, {op(28, 0), rec(half, last), false}, {op(28, 0), rec(last, half), false},
	} {
		passes(t, ops(c.o), c.r, c.want)
	}
}

func TestMapOfSeveral(t *testing.T) { // P20.2: one behind the other, from the first on
	isMapped(t, ops(op(1, 9), op(2, 1)), rec(3, 4), rec(10, 4))
	isMapped(t, ops(op(2, 1), op(1, 9)), rec(3, 4), rec(9, 4))
	isMapped(t, ops(op(5, 1), op(6, 3)), rec(3, 4), rec(3, 15))
	isMapped(t, ops(op(6, 3), op(5, 1)), rec(3, 4), rec(3, 13))
	isMapped(t, ops(op(2, 2), op(3, 5)), rec(last, 4), rec(1, 4))
	isMapped(t, ops(op(3, 5), op(2, 2)), rec(last, 4), rec(2, 4))
	isMapped(t, ops(op(8, 0), op(7, 0)), rec(3, 4), rec(7, 3))
	isMapped(t, ops(op(7, 0), op(7, 0)), rec(3, 4), rec(3, 4))
	isMapped(t, ops(op(10, 2), op(8, 0), op(9, 1), op(6, 4)), rec(3, 4), rec(3, 20))
	isMapped(t, ops(op(9, 1), op(10, 2)), rec(3, 4), rec(2, 2))
	isMapped(t, ops(op(4, 8), op(7, 0), op(3, 5), op(4, 6)), rec(3, 4), rec(3, 6))
	isMapped(t, repeated(op(9, 1), 16), rec(3, last), rec(19, 15))
	isMapped(t, repeated(op(6, 16), 16), rec(3, 4), rec(3, 0))
	isMapped(t, repeated(op(6, 16), 15), rec(3, 4), rec(3, 1<<62))
	isMapped(t, append(repeated(op(7, 0), 15), op(5, 1)), rec(3, 4), rec(4, 4))

	// Fibonacci's numbers: the two are added up and change places, eight times.
	isMapped(t, slices.Repeat(ops(op(8, 0), op(7, 0)), 8), rec(0, 1), rec(21, 13))
}

func TestPassOfSeveral(t *testing.T) { // P20.3
	passes(t, ops(op(21, 3), op(26, 4)), rec(3, 4), false)
	passes(t, ops(op(26, 4), op(21, 3)), rec(3, 4), false)
	passes(t, ops(op(22, 0), op(23, 4), op(24, 4), op(27, 5)), rec(3, 4), true)
	passes(t, ops(op(21, 3), op(21, 4)), rec(3, 4), false)
	passes(t, ops(op(21, 3), op(22, 3)), rec(3, 4), false)
	passes(t, ops(op(21, 5), op(22, 3)), rec(3, 4), false)
	passes(t, ops(op(28, 0), op(25, 0), op(27, 8)), rec(7, 7), true)

	// One alone that doesn't hold, wherever it stands.
	for many := 1; many <= api.MaxCode; many++ {
		passes(t, repeated(op(23, 4), many), rec(3, 4), true)
		for at := range many {
			l := repeated(op(23, 4), many)
			l[at] = op(26, 4)
			passes(t, l, rec(3, 4), false)
			passes(t, l, rec(3, 3), true)
		}
	}
}

func TestOfTooManyInstructions(t *testing.T) { // P20.2, P20.3
	r := rec(13, 4)
	for _, o := range mapOps() {
		for _, many := range []int{17, 18, 32, 256, 1 << 16} {
			isMapped(t, repeated(o, many), r, r)
			passes(t, repeated(o, many), r, false)
		}
	}
	for _, o := range ops(op(21, 13), op(22, 0), op(23, 14), op(24, 4), op(25, 0), op(26, 5), op(27, 14)) {
		passes(t, repeated(o, 16), r, true)
		for _, many := range []int{17, 18, 32, 256, 1 << 16} {
			passes(t, repeated(o, many), r, false)
			isMapped(t, repeated(o, many), r, r)
		}
	}
}

func TestOfTheOthersCode(t *testing.T) { // P20.2, P20.3: a filter's code at Map, a map's at Pass
	r := rec(13, 4)
	for _, o := range filterOps() {
		isMapped(t, ops(o), r, r)
		isMapped(t, ops(op(9, 1), o), r, r)
		isMapped(t, ops(o, op(9, 1)), r, r)
	}
	for _, o := range mapOps() {
		passes(t, ops(o), r, false)
		passes(t, ops(op(22, 0), o), r, false)
		passes(t, ops(o, op(22, 0)), r, false)
		passes(t, ops(op(21, 0), o), r, false)
	}
	for _, kind := range noKinds() {
		for _, arg := range args() {
			isMapped(t, ops(op(kind, arg)), r, r)
			isMapped(t, ops(op(9, 1), op(kind, arg)), r, r)
			passes(t, ops(op(kind, arg)), r, false)
			passes(t, ops(op(22, 0), op(kind, arg)), r, false)
		}
	}
	for _, o := range ops(op(3, 0), op(7, 1), op(7, last), op(8, 1), op(8, last)) {
		isMapped(t, ops(o), r, r)
		isMapped(t, ops(op(10, 6), o), r, r)
		isMapped(t, ops(o, op(10, 6)), r, r)
	}
	same := rec(7, 7)
	for _, arg := range []uint64{1, 7, half, last} {
		passes(t, ops(op(28, arg)), same, false)
		passes(t, ops(op(28, 0), op(28, arg)), same, false)
	}
}
