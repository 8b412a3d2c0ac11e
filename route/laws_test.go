package route

import (
	"math/bits"
	"slices"
	"testing"

	"sluice/api"
	"sluice/draws"
)

// word is a number by its bits, the least first.
type word [64]bool

func wordOf(x uint64) word {
	var w word
	for i := range w {
		w[i] = x>>i&1 == 1
	}
	return w
}

func (w word) number() uint64 {
	var x uint64
	for i, b := range w {
		if b {
			x |= 1 << i
		}
	}
	return x
}

// mixed is the word xor itself shifted to the right, with zeros from above.
func (w word) mixed(by int) word {
	m := w
	for i := range w {
		if i+by < len(w) {
			m[i] = w[i] != w[i+by]
		}
	}
	return m
}

// plus adds bit by bit; what is carried out above is lost.
func (w word) plus(v word) word {
	var s word
	carry := false
	for i := range w {
		ones := 0
		for _, b := range []bool{w[i], v[i], carry} {
			if b {
				ones++
			}
		}
		s[i], carry = ones%2 == 1, ones > 1
	}
	return s
}

// times adds up the word shifted to the left, once for each bit of the other one.
func (w word) times(v word) word {
	var sum word
	for by, b := range v {
		if b {
			var shifted word
			copy(shifted[by:], w[:])
			sum = sum.plus(shifted)
		}
	}
	return sum
}

// hashByWords is P18.1, bit by bit.
func hashByWords(key uint64) uint64 {
	x := wordOf(key).mixed(30)
	x = x.times(wordOf(0xBF58476D1CE4E5B9)).mixed(27)
	x = x.times(wordOf(0x94D049BB133111EB)).mixed(31)
	return x.number()
}

// unmixed undoes x xor (x >> by).
func unmixed(x uint64, by int) uint64 {
	for at := 64 - by - 1; at >= 0; at-- {
		x ^= x >> by & (1 << at)
	}
	return x
}

// undone is the number by which a product with an odd one is undone.
func undone(odd uint64) uint64 {
	x := odd
	for range 6 {
		x *= 2 - odd*x
	}
	return x
}

// keyOf is the one key that has a hash: that there is one says that no two have the same.
func keyOf(hash uint64) uint64 {
	x := unmixed(hash, 31) * undone(0x94D049BB133111EB)
	x = unmixed(x, 27) * undone(0xBF58476D1CE4E5B9)
	return unmixed(x, 30)
}

// drawn is any uint64.
func drawn(next func(below int) int) uint64 {
	return uint64(next(1<<22))<<42 | uint64(next(1<<21))<<21 | uint64(next(1<<21))
}

// ends are numbers at the ends of each shift, and close to them.
func ends() []uint64 {
	l := []uint64{0, 1, last, last - 1}
	for _, by := range []int{27, 30, 31} {
		for _, at := range []int{by, 2 * by, 64 - by} {
			x := uint64(1) << at
			l = append(l, x-2, x-1, x, x+1, -x, ^x, last<<at, last>>at)
		}
	}
	for at := range 64 {
		l = append(l, 1<<at, 1<<at-1, last-1<<at)
	}
	return l
}

// keys are ends, such that lie close together, such that differ in one bit, and drawn ones; each once.
func keys() []uint64 {
	l := ends()
	for key := range uint64(3000) {
		l = append(l, key, last-key, 1<<63+key, 1<<32-key, key<<31, key<<48)
	}
	next := draws.Numbers(18)
	for range 200 {
		key := drawn(next)
		l = append(l, key)
		for bit := range 64 {
			l = append(l, key^1<<bit)
		}
	}
	for range 20000 {
		l = append(l, drawn(next))
	}
	slices.Sort(l)
	return slices.Compact(l)
}

func TestHashAgainstItsWords(t *testing.T) { // P18.1
	l := ends()
	next := draws.Numbers(1)
	for range 2000 {
		l = append(l, drawn(next))
	}
	for _, key := range l {
		if h, want := Hash(key), hashByWords(key); h != want {
			t.Errorf("Hash(%X) = %X, want %X", key, h, want)
		}
	}
}

func TestUnlikeKeysHaveUnlikeHashes(t *testing.T) { // P18.1
	of := map[uint64]uint64{}
	l := keys()
	for _, key := range l {
		h := Hash(key)
		if other, was := of[h]; was {
			t.Fatalf("%X and %X have the hash %X", key, other, h)
		}
		of[h] = key
		if back := keyOf(h); back != key {
			t.Fatalf("the hash of %X goes back to %X", key, back)
		}
		// And each number is the hash of one key.
		if h := Hash(keyOf(key)); h != key {
			t.Fatalf("the key whose hash is %X has the hash %X", key, h)
		}
	}
	if len(l) < 40000 {
		t.Errorf("%d keys alone", len(l))
	}
}

func TestHashesOfKeysThatDifferInOneBit(t *testing.T) { // P18.1: what the mixing is for: keys that lie close together go to all workers
	next := draws.Numbers(2)
	differ, many := 0, 0
	for range 500 {
		key := drawn(next)
		for bit := range 64 {
			differ += bits.OnesCount64(Hash(key) ^ Hash(key^1<<bit))
			many++
		}
	}
	if differ < 30*many || differ > 34*many {
		t.Errorf("by one bit %d of the hash's bits in 100 differ", 100*differ/(64*many))
	}
}

func TestToAgainstItsWords(t *testing.T) { // P18.2
	for _, key := range keys() {
		for workers := -1; workers <= 10; workers++ {
			want := -1
			if workers >= 1 && workers <= 8 {
				_, left := bits.Div64(0, Hash(key), uint64(workers))
				want = int(left)
			}
			if w := To(key, workers); w != want {
				t.Fatalf("To(%X, %d) = %d, want %d", key, workers, w, want)
			}
		}
	}
}

// sentByWords is P18.3, of the graph as it was given, with the places numbered apart from package graph.
func sentByWords(g api.Graph, place int, t api.Time, r api.Record, own, workers int) []Out {
	if workers < 1 || workers > 8 || own < 0 || own >= workers {
		return nil
	}
	steps, _ := draws.Steps(g)
	ways := steps[len(steps)-len(g.Edges):]
	var l []Out
	for i, d := range g.Edges {
		to := own
		if d.Keyed {
			to = int(hashByWords(r.Key) % uint64(workers))
		}
		if ways[i].From == place {
			l = append(l, out(to, ways[i].To, t, r))
		}
	}
	return l
}

func TestSendAgainstItsWords(t *testing.T) { // P18.3
	var none, single, several, mixed, refused int
	for seed := range 400 {
		next := draws.Numbers(uint64(seed))
		raw := draws.Graph(next, 10, 40)
		g := made(t, raw)
		for place := -2; place <= g.Places()+1; place++ {
			workers, own := next(11)-1, next(10)-1
			at := api.Time{A: drawn(next), B: uint64(next(3)), C: drawn(next)}
			r := api.Record{Key: drawn(next), Val: drawn(next)}
			l, want := Send(g, place, at, r, own, workers), sentByWords(raw, place, at, r, own, workers)
			if !slices.Equal(l, want) {
				t.Fatalf("seed %d: Send from %d, own %d of %d: %v, want %v", seed, place, own, workers, l, want)
			}
			switch _, _, in := g.Of(place); {
			case in || place < 0 || place >= g.Places() || workers < 1 || own < 0 || own >= workers || workers > 8:
				refused++
			case len(l) == 0:
				none++
			case len(l) == 1:
				single++
			default:
				several++
			}
			if slices.ContainsFunc(l, func(o Out) bool { return o.Worker == own }) && slices.ContainsFunc(l, func(o Out) bool { return o.Worker != own }) {
				mixed++
			}
		}
	}
	for _, many := range []int{none, single, several, mixed, refused} {
		if many < 100 {
			t.Errorf("too few: %d without an edge, %d with one, %d with several, %d of these to several workers, %d refused", none, single, several, mixed, refused)
		}
	}
}

func TestOneKeyOneWorker(t *testing.T) { // P18.4
	raw := tangle()
	g := made(t, raw)
	next := draws.Numbers(4)
	for range 300 {
		key := drawn(next)
		for workers := 1; workers <= api.MaxWorkers; workers++ {
			for own := range workers {
				for place, along := range legs() {
					// Whatever the time and the value, and whatever edge it goes along.
					l := Send(g, place, api.Time{A: drawn(next)}, api.Record{Key: key, Val: drawn(next)}, own, workers)
					for i, d := range along {
						if d.keyed && l[i].Worker != To(key, workers) || !d.keyed && l[i].Worker != own {
							t.Fatalf("key %X, own %d of %d, place %d: %v", key, own, workers, place, l)
						}
					}
				}
			}
		}
	}
}
