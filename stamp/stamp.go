// Package stamp: times, their orders, their texts: see DOC.md, chapter 1.
package stamp

import (
	"cmp"
	"slices"

	"sluice/api"
)

// Ahead: is a at or ahead of b?
func Ahead(a api.Time, b api.Time) bool {
	atMost := over(a, b, func(x, y uint64) bool { return x <= y })
	return atMost == [api.MaxArity]bool{true, true, true}
}

// Compare is the order of telling.
func Compare(a api.Time, b api.Time) int {
	signs := over(a, b, cmp.Compare[uint64])
	return cmp.Or(signs[:]...)
}

// Join is the least time that both are at or ahead of.
func Join(a api.Time, b api.Time) api.Time {
	return timeOf(over(a, b, func(x, y uint64) uint64 { return max(x, y) }))
}

// Meet is the greatest time that is at or ahead of both.
func Meet(a api.Time, b api.Time) api.Time {
	return timeOf(over(a, b, func(x, y uint64) uint64 { return min(x, y) }))
}

// Fits tells whether a time has just the numbers that count.
func Fits(t api.Time, arity int) api.Errno {
	if arity < 1 || arity > api.MaxArity {
		return api.ErrArity
	}
	counting := numbersOf(t)
	clear(counting[arity:])
	if timeOf(counting) != t {
		return api.ErrArity
	}
	return api.OK
}

// Front is the front of any times.
func Front(l ...api.Time) []api.Time {
	told := slices.Clone(l)
	slices.SortFunc(told, Compare)
	var front []api.Time
	// A time that is at or ahead of another one is told first: so nothing that
	// comes later could keep out a time that stands in the front already.
	for _, t := range told {
		if !Open(front, t) {
			front = append(front, t)
		}
	}
	return front
}

// Open: is one of these times at or ahead of t?
func Open(l []api.Time, t api.Time) bool {
	return slices.ContainsFunc(l, func(u api.Time) bool { return Ahead(u, t) })
}

// over asks one question of the two As, the two Bs and the two Cs.
func over[T any](a, b api.Time, ask func(x, y uint64) T) [api.MaxArity]T {
	return [api.MaxArity]T{ask(a.A, b.A), ask(a.B, b.B), ask(a.C, b.C)}
}

func numbersOf(t api.Time) [api.MaxArity]uint64 {
	return [api.MaxArity]uint64{t.A, t.B, t.C}
}

func timeOf(n [api.MaxArity]uint64) api.Time {
	return api.Time{A: n[0], B: n[1], C: n[2]}
}
