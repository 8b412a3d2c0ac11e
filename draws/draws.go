// Package draws: what the tests of several packages draw their inputs by. It has no chance in it: the same seed gives the same draws, so a test that fails fails again.
package draws

import "slices"

// Numbers gives some from 0 on that look mixed, each below what it is asked (0, if there is no such number).
func Numbers(seed uint64) func(below int) int {
	return func(below int) int {
		seed = seed*6364136223846793005 + 1442695040888963407
		if below < 1 {
			return 0
		}
		return int(seed >> 33 % uint64(below))
	}
}

// Mixed is a new list of the same elements in another order.
func Mixed[T any](l []T, next func(below int) int) []T {
	m := slices.Clone(l)
	for i := range m {
		j := i + next(len(m)-i)
		m[i], m[j] = m[j], m[i]
	}
	return m
}
