package chain

import (
	"slices"
	"testing"

	"sluice/draws"
)

// grid is all pairs of numbers below n.
func grid(n int) []pair {
	var l []pair
	for a := range n {
		for b := range n {
			l = append(l, pair{a, b})
		}
	}
	return l
}

// plain is a chain by the words of the promises: a list alone.
type plain[T any] struct {
	below, first func(a, b T) bool
	list         []T
}

func (p *plain[T]) insert(v T) bool {
	for _, x := range p.list {
		if p.below(x, v) {
			return false
		}
	}
	p.cut(v)
	for i, y := range p.list {
		if p.first(v, y) {
			p.list = slices.Concat(p.list[:i], []T{v}, p.list[i:])
			return true
		}
	}
	p.list = slices.Concat(p.list, []T{v})
	return true
}

func (p *plain[T]) cut(v T) int {
	var stay []T
	for _, x := range p.list {
		if !p.below(v, x) {
			stay = append(stay, x)
		}
	}
	out := len(p.list) - len(stay)
	p.list = stay
	return out
}

func TestAnyFunctionsGoByTheWords(t *testing.T) { // P3.2, P3.3
	const n = 5
	for seed := range uint64(400) {
		next := draws.Numbers(seed)
		// Each function is a table drawn at will: most of them are no orders.
		draw := func(share int) func(a, b int) bool {
			var holds [n][n]bool
			for a := range n {
				for b := range n {
					holds[a][b] = next(10) < share
				}
			}
			return func(a, b int) bool { return holds[a][b] }
		}
		below, first := draw(1+int(seed%4)), draw(1+int(seed%9))
		c, p := New(below, first), &plain[int]{below: below, first: first}
		for range 40 {
			v := next(n)
			if next(5) == 0 {
				if got, want := c.Cut(v), p.cut(v); got != want {
					t.Fatalf("seed %d: Cut(%d) = %d, want %d", seed, v, got, want)
				}
			} else if got, want := c.Insert(v), p.insert(v); got != want {
				t.Fatalf("seed %d: Insert(%d) = %v, want %v", seed, v, got, want)
			}
			if !slices.Equal(c.List(), p.list) {
				t.Fatalf("seed %d: the list is %v, want %v", seed, c.List(), p.list)
			}
		}
	}
}

// isChainOf fails the test, if the list isn't what P3.5 says of what was handed in.
func isChainOf[T comparable](t *testing.T, list, handed []T, below func(a, b T) bool) {
	t.Helper()
	for i, x := range list {
		for j, y := range list {
			if i != j && below(x, y) {
				t.Fatalf("%v is at or ahead of %v in %v", x, y, list)
			}
		}
		if !slices.Contains(handed, x) {
			t.Fatalf("%v was never handed in: %v", x, handed)
		}
	}
	for _, v := range handed {
		if !slices.ContainsFunc(list, func(x T) bool { return below(x, v) }) {
			t.Fatalf("nothing is at or ahead of %v in %v", v, list)
		}
	}
}

func TestOrdersInWhichTwoMayBeTheSame(t *testing.T) { // P3.5
	// By the first number alone: pairs with the same one are at or ahead of one another, and aren't equal.
	byFirstNumber := func(x, y pair) bool { return x.a <= y.a }
	byRest := func(x, y pair) bool { return x.a%2 == y.a%2 && x.a <= y.a && x.b <= y.b }
	for _, below := range []func(x, y pair) bool{bothAtMost, byFirstNumber, byRest, always[pair]} {
		for _, first := range []func(x, y pair) bool{byFirstThenSecond, never[pair], always[pair]} {
			for seed := range uint64(60) {
				next := draws.Numbers(seed)
				c := New(below, first)
				var handed []pair
				for range 20 {
					l := []pair{{next(7), next(7)}, {next(7), next(7)}}[:1+next(2)]
					handed = append(handed, l...)
					if len(l) == 1 {
						c.Insert(l[0])
					} else {
						c.Join(l...)
					}
					isChainOf(t, c.List(), handed, below)
				}
			}
		}
	}
}

func TestTheListHangsOnWhatWasHandedInAlone(t *testing.T) { // P3.6
	all := grid(3)
	next := draws.Numbers(7)
	for bits := range 1 << len(all) {
		var handed []pair
		for i, x := range all {
			if bits>>i&1 == 1 {
				handed = append(handed, x)
			}
		}
		c := pairs()
		c.Join(handed...)
		want := c.List()
		if !slices.IsSortedFunc(want, func(x, y pair) int {
			if byFirstThenSecond(x, y) {
				return -1
			}
			return 1
		}) {
			t.Fatalf("the list isn't sorted: %v", want)
		}
		for range 3 {
			d := pairs()
			d.Join(draws.Mixed(slices.Concat(handed, handed[:len(handed)/2]), next)...)
			holds(t, d, want...)
		}
	}
}

func TestASubsetAndItsOrderTheOtherWayRound(t *testing.T) { // P3.6
	// Sets as bits, the greater set being at or ahead; told from the greatest number down.
	holdsAll := func(a, b uint8) bool { return a&b == b }
	c := New(holdsAll, func(a, b uint8) bool { return a > b })
	inserts(t, c, 0b0001, true, 0b0001)
	inserts(t, c, 0b0110, true, 0b0110, 0b0001)
	inserts(t, c, 0b0100, false, 0b0110, 0b0001)
	inserts(t, c, 0b1001, true, 0b1001, 0b0110)
	inserts(t, c, 0b0011, true, 0b1001, 0b0110, 0b0011)
	inserts(t, c, 0b0111, true, 0b1001, 0b0111)
	inserts(t, c, 0b1111, true, 0b1111)
}

func TestManyOfWhichNoneIsAheadOfAnother(t *testing.T) { // P3.2, P3.6
	const n = 2000
	c := pairs()
	var want []pair
	for i := range n {
		want = append(want, pair{i, n - i})
	}
	if in := c.Join(draws.Mixed(want, draws.Numbers(3))...); in != n {
		t.Errorf("Join answers %d, want %d", in, n)
	}
	holds(t, c, want...)
	inserts(t, c, pair{0, 0}, true, pair{0, 0})
}
