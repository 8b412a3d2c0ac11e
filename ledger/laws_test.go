package ledger

import (
	"slices"
	"testing"

	"sluice/api"
	"sluice/draws"
)

// plain is a ledger by the words of the promises: all that was ever written, one line behind the other, and what its sums were brought to ahead of it.
type plain struct {
	first, lines []api.Change
}

func (p *plain) sum(s api.Stamp) int64 {
	var n int64
	for _, c := range slices.Concat(p.first, p.lines) {
		if c.S == s {
			n += c.N
		}
	}
	return n
}

func (p *plain) write(s api.Stamp, n int64) api.Errno {
	if p.sum(s) == n*most {
		return api.ErrRange
	}
	p.lines = append(p.lines, change(n, s))
	return api.OK
}

// toldFirst by the words: by places, then A, then B, then C.
func toldFirst(a, b api.Stamp) bool {
	switch {
	case a.At != b.At:
		return a.At < b.At
	case a.T.A != b.T.A:
		return a.T.A < b.T.A
	case a.T.B != b.T.B:
		return a.T.B < b.T.B
	}
	return a.T.C < b.T.C
}

// changes puts each stamp whose sum isn't 0 where it stands in the order.
func (p *plain) changes() []api.Change {
	var l []api.Change
	for _, c := range slices.Concat(p.first, p.lines) {
		n := p.sum(c.S)
		if n == 0 || slices.Contains(l, change(n, c.S)) {
			continue
		}
		i := 0
		for i < len(l) && toldFirst(l[i].S, c.S) {
			i++
		}
		l = slices.Insert(l, i, change(n, c.S))
	}
	return l
}

func (p *plain) copied() *plain {
	return &plain{slices.Clone(p.first), slices.Clone(p.lines)}
}

// pair is one and what is told of it.
type pair struct {
	l *Ledger
	p *plain
}

func drawn(next func(int) int) api.Stamp {
	return at(next(3)-1, uint64(next(2)), uint64(next(2)), uint64(next(2))*last)
}

// begins is an empty one, or, of each third seed, one with sums near the ends of the range.
func begins(t *testing.T, seed uint64) pair {
	if seed%3 > 0 {
		return pair{New(), &plain{}}
	}
	first := []api.Change{change(most-1, at(0)), change(1-most, at(0, 1)), change(most, at(-1, 1, 1)), change(-most, at(1, 0, 1))}
	return pair{brought(t, first...), &plain{first: first}}
}

func TestAnyCallsGoByTheWords(t *testing.T) { // P14.1 to P14.4, P3, P5
	refused, empty, copied := 0, 0, 0
	for seed := range uint64(120) {
		next := draws.Numbers(seed)
		pairs := []pair{begins(t, seed)}
		for i := range 120 {
			x := pairs[next(len(pairs))]
			s := drawn(next)
			if k := x.l.Keys(); len(k) > 0 && next(2) == 0 {
				s = k[next(len(k))]
			}
			var e, want api.Errno
			switch kind := next(40); {
			case kind == 0:
				x.l.Clear()
				*x.p = plain{}
				empty++
			case kind == 1 && len(pairs) < 4:
				pairs = append(pairs, pair{x.l.Copy(), x.p.copied()})
				copied++
			case kind%2 == 0:
				e, want = x.l.Make(s), x.p.write(s, 1)
			default:
				e, want = x.l.Use(s), x.p.write(s, -1)
			}
			if e != want {
				t.Fatalf("seed %d, call %d at %v: %d, want %d", seed, i, s, e, want)
			}
			if e != api.OK {
				refused++
			}
			for _, y := range pairs {
				holds(t, y.l, y.p.changes()...)
				sumOf(t, y.l, s, y.p.sum(s))
			}
			if t.Failed() {
				t.Fatalf("seed %d, call %d", seed, i)
			}
		}
	}
	if min(refused, empty, copied) < 50 {
		t.Errorf("the draws are refused %d times, clear %d times, copy %d times", refused, empty, copied)
	}
}

// writes puts lines into a ledger.
func writes(t *testing.T, l *Ledger, lines []api.Change) {
	t.Helper()
	for _, c := range lines {
		if c.N > 0 {
			makes(t, l, c.S)
		} else {
			uses(t, l, c.S)
		}
	}
}

// act draws what is made and used in one.
func act(next func(int) int) []api.Change {
	var lines []api.Change
	for range next(60) {
		lines = append(lines, change(int64(next(2))*2-1, drawn(next)))
	}
	return lines
}

func TestWritingsInAnyOrder(t *testing.T) { // P14.5, P3
	for seed := range uint64(150) {
		next := draws.Numbers(seed)
		lines := act(next)
		want := (&plain{lines: lines}).changes()
		for range 5 {
			l := New()
			writes(t, l, draws.Mixed(lines, next))
			holds(t, l, want...)
		}
		// The other way round, by what each is.
		made, used := New(), New()
		for _, c := range lines {
			if c.N > 0 {
				makes(t, made, c.S)
			} else {
				uses(t, used, c.S)
			}
		}
		for _, c := range lines {
			if c.N < 0 {
				uses(t, made, c.S)
			} else {
				makes(t, used, c.S)
			}
		}
		holds(t, made, want...)
		holds(t, used, want...)
		if t.Failed() {
			t.Fatalf("seed %d: %v", seed, lines)
		}
	}
}

func TestWritingsInTwoHalves(t *testing.T) { // P14.5, P14.4
	for seed := range uint64(150) {
		next := draws.Numbers(seed)
		lines := draws.Mixed(act(next), next)
		cut := next(len(lines) + 1)
		want := (&plain{lines: lines}).changes()
		one := New()
		writes(t, one, lines[:cut])
		holds(t, one, (&plain{lines: lines[:cut]}).changes()...)
		// What each half tells goes, line by line, into one that has it all.
		other := New()
		writes(t, other, lines[cut:])
		both := New()
		for _, c := range slices.Concat(other.Changes(), one.Changes()) {
			for n := c.N; n != 0; n -= sign(n) {
				writes(t, both, []api.Change{change(sign(n), c.S)})
			}
		}
		holds(t, both, want...)
		// Or a copy goes on where the first half ended.
		goes := one.Copy()
		one.Clear()
		writes(t, goes, lines[cut:])
		holds(t, goes, want...)
		writes(t, one, lines[cut:])
		holds(t, one, other.Changes()...)
		if t.Failed() {
			t.Fatalf("seed %d: %v, cut at %d", seed, lines, cut)
		}
	}
}

func sign(n int64) int64 {
	if n < 0 {
		return -1
	}
	return 1
}

func TestWhatIsMadeAndUsedIsNotTold(t *testing.T) { // P14.5
	for seed := range uint64(100) {
		next := draws.Numbers(seed)
		lines := act(next)
		opposite := slices.Clone(lines)
		for i := range opposite {
			opposite[i].N = -opposite[i].N
		}
		l := begin(t)
		writes(t, l, draws.Mixed(slices.Concat(lines, opposite), next))
		holds(t, l, begun()...)
		empty := New()
		writes(t, empty, lines)
		writes(t, empty, draws.Mixed(opposite, next))
		holds(t, empty)
		if t.Failed() {
			t.Fatalf("seed %d: %v", seed, lines)
		}
	}
}

func TestManyStampsComeAndGo(t *testing.T) { // P14.3
	next := draws.Numbers(5)
	var all []api.Stamp
	for place := range 20 {
		for n := range uint64(100) {
			all = append(all, at(place, n/10, n%10))
		}
	}
	l := New()
	makes(t, l, draws.Mixed(all, next)...)
	if l.Len() != len(all) || !slices.Equal(l.Keys(), all) || !slices.Equal(stampsOf(l.Changes()), all) {
		t.Error("not all stamps, or not in their order")
	}
	left := slices.Clone(all)
	left = slices.DeleteFunc(left, func(s api.Stamp) bool { return s.T.B%3 != 0 })
	for _, s := range draws.Mixed(all, next) {
		if s.T.B%3 != 0 {
			uses(t, l, s)
		}
	}
	if l.Len() != len(left) || !slices.Equal(l.Keys(), left) || !slices.Equal(stampsOf(l.Changes()), left) {
		t.Error("not those that are left, or not in their order")
	}
}
