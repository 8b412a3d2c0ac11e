package tally

import (
	"cmp"
	"maps"
	"slices"
	"testing"

	"sluice/api"
	"sluice/draws"
)

// plain is counts by the words of the promises: one for each key, those of 0 too.
type plain [6]int64

func inRange(n int64) bool { return -most <= n && n <= most }

func (p *plain) add(k int, n int64) api.Errno {
	if !inRange(n) || !inRange(p[k]+n) {
		return api.ErrRange
	}
	p[k] += n
	return api.OK
}

func (p *plain) join(o plain) api.Errno {
	for k := range p {
		if !inRange(p[k] + o[k]) {
			return api.ErrRange
		}
	}
	for k := range p {
		p[k] += o[k]
	}
	return api.OK
}

func (p *plain) list() []has[int] {
	var l []has[int]
	for k, n := range p {
		if n != 0 {
			l = append(l, has[int]{k, n})
		}
	}
	return l
}

// count draws one: small ones, and ones at the ends of the range.
func count(next func(int) int) int64 {
	n := int64(next(5)) - 2
	switch next(8) {
	case 0:
		return most + n
	case 1:
		return -most + n
	case 2:
		return most/2 + n
	}
	return n
}

func TestAnyCallsGoByTheWords(t *testing.T) { // P4.2 to P4.5
	for seed := range uint64(300) {
		next := draws.Numbers(seed)
		tallies := [3]*Tally[int]{New(cmp.Compare[int]), New(cmp.Compare[int]), New(cmp.Compare[int])}
		var plains [3]plain
		for range 80 {
			i, j := next(3), next(3)
			c, p := tallies[i], &plains[i]
			switch next(16) {
			case 0:
				c.Clear()
				*p = plain{}
			case 1:
				tallies[j], plains[j] = c.Copy(), *p
			case 2, 3, 4:
				joins(t, c, tallies[j], p.join(plains[j]))
			default:
				k, n := next(len(p)), count(next)
				adds(t, c, k, n, p.add(k, n))
			}
			for x, c := range tallies {
				holds(t, c, plains[x].list()...)
			}
			if t.Failed() {
				t.Fatalf("seed %d", seed)
			}
		}
	}
}

func TestAddsInAnyOrder(t *testing.T) { // P4.6
	for seed := range uint64(100) {
		next := draws.Numbers(seed)
		var l []has[int]
		for range 30 {
			l = append(l, has[int]{next(6), int64(next(9)) - 4})
		}
		c := New(cmp.Compare[int])
		for _, x := range l {
			adds(t, c, x.key, x.n, api.OK)
		}
		for range 5 {
			d := New(cmp.Compare[int])
			for _, x := range draws.Mixed(l, next) {
				adds(t, d, x.key, x.n, api.OK)
			}
			if !slices.Equal(c.Keys(), d.Keys()) || !maps.Equal(c.counts, d.counts) {
				t.Fatalf("seed %d: %v in another order: %v", seed, c.counts, d.counts)
			}
		}
	}
}

func TestJoinIsAddOfEachKey(t *testing.T) { // P4.6
	for seed := range uint64(100) {
		next := draws.Numbers(seed)
		c, o := New(cmp.Compare[int]), New(cmp.Compare[int])
		for range 12 {
			adds(t, c, next(8), int64(next(5))-2, api.OK)
			adds(t, o, next(8), int64(next(5))-2, api.OK)
		}
		d := c.Copy()
		joins(t, c, o, api.OK)
		for _, k := range draws.Mixed(o.Keys(), next) {
			adds(t, d, k, o.Get(k), api.OK)
		}
		if !slices.Equal(c.Keys(), d.Keys()) || !maps.Equal(c.counts, d.counts) {
			t.Fatalf("seed %d: joined %v, added %v", seed, c.counts, d.counts)
		}
	}
}

func TestAddOfANumberAndOfItsOpposite(t *testing.T) { // P4.6
	for _, was := range []int64{0, 1, -1, 7, most, -most} {
		for _, n := range []int64{0, 1, -1, 6, -7, most, -most} {
			if !inRange(was + n) {
				continue
			}
			c := New(cmp.Compare[int])
			adds(t, c, 1, was, api.OK)
			adds(t, c, 2, 5, api.OK)
			kept := c.Copy()
			adds(t, c, 1, n, api.OK)
			adds(t, c, 1, -n, api.OK)
			if !slices.Equal(c.Keys(), kept.Keys()) || !maps.Equal(c.counts, kept.counts) {
				t.Errorf("%d, then %d and %d: %v", was, n, -n, c.counts)
			}
		}
	}
}

func TestManyKeysComeAndGo(t *testing.T) { // P4.3
	const many = 5000
	next := draws.Numbers(11)
	var all []int
	for k := range many {
		all = append(all, k)
	}
	c := New(cmp.Compare[int])
	for _, k := range draws.Mixed(all, next) {
		adds(t, c, k, int64(k%3)+1, api.OK)
	}
	if !slices.Equal(c.Keys(), all) {
		t.Error("not all keys, or not in order")
	}
	o := New(cmp.Compare[int])
	for _, k := range draws.Mixed(all, next) {
		if k%7 != 0 {
			adds(t, o, k, -int64(k%3)-1, api.OK)
		}
	}
	joins(t, c, o, api.OK)
	if c.Len() != many/7+1 {
		t.Errorf("%d keys are left", c.Len())
	}
	for i, k := range c.Keys() {
		if k != 7*i || c.Get(k) != int64(k%3)+1 {
			t.Fatalf("key %d has the count %d", k, c.Get(k))
		}
	}
}
