package flow

import (
	"math"
	"slices"
	"testing"

	"sluice/api"
)

const (
	last = math.MaxUint64
	half = 1 << 63
)

func op(kind int, arg uint64) api.Op { return api.Op{Kind: kind, Arg: arg} }

func ops(l ...api.Op) []api.Op { return l }

func rec(key, val uint64) api.Record { return api.Record{Key: key, Val: val} }

func at(a, b, c uint64) api.Time { return api.Time{A: a, B: b, C: c} }

func by(a, b, c uint64) api.Path { return api.Path{A: a, B: b, C: c} }

func mapNode(l ...api.Op) api.Node { return api.Node{Kind: api.KMap, Ins: 1, Outs: 1, Code: l} }

func filterNode(l ...api.Op) api.Node { return api.Node{Kind: api.KFilter, Ins: 1, Outs: 1, Code: l} }

func joinNode() api.Node { return api.Node{Kind: api.KJoin, Ins: 2, Outs: 1} }

func loopNode(p api.Path, bound uint64) api.Node {
	return api.Node{Kind: api.KLoop, Ins: 1, Outs: 1, By: p, Bound: bound}
}

// repeated is one instruction so many times.
func repeated(o api.Op, many int) []api.Op { return slices.Repeat(ops(o), many) }

// edges are the numbers at which sums and comparisons turn.
func edges() []uint64 { return []uint64{0, 1, 2, half - 1, half, half + 1, last - 1, last} }

// times are all those of four numbers, at each of the three places.
func times() []api.Time {
	var l []api.Time
	numbers := []uint64{0, 1, half, last}
	for _, a := range numbers {
		for _, b := range numbers {
			for _, c := range numbers {
				l = append(l, at(a, b, c))
			}
		}
	}
	return l
}

func records() []api.Record {
	var l []api.Record
	for _, key := range edges() {
		for _, val := range edges() {
			l = append(l, rec(key, val))
		}
	}
	return l
}

// made is the Flow of a node that New may not refuse.
func made(t *testing.T, n api.Node) Flow {
	t.Helper()
	f, e := New(n)
	if f == nil || e != api.OK {
		t.Fatalf("New(%v): %v, %d", n, f, e)
	}
	if k := Kind(f); k != n.Kind {
		t.Fatalf("Kind of New(%v) = %d", n, k)
	}
	return f
}

func refused(t *testing.T, n api.Node, want api.Errno) {
	t.Helper()
	if f, e := New(n); f != nil || e != want {
		t.Errorf("New(%v): %v, %d, want nil, %d", n, f, e, want)
	}
}

func becomes(t *testing.T, f Flow, u api.Time, r api.Record, later api.Time, s api.Record) {
	t.Helper()
	if v, q, ok := f.Do(u, r); v != later || q != s || !ok {
		t.Errorf("Do(%v, %v) of kind %d: %v, %v, %v, want %v, %v, true", u, r, Kind(f), v, q, ok, later, s)
	}
}

func goes(t *testing.T, f Flow, u api.Time, r api.Record) {
	t.Helper()
	if v, q, ok := f.Do(u, r); v != (api.Time{}) || q != (api.Record{}) || ok {
		t.Errorf("Do(%v, %v) of kind %d: %v, %v, %v, want the least time, the zero record, false", u, r, Kind(f), v, q, ok)
	}
}

func TestTheChaptersExamples(t *testing.T) { // P21.1, P21.2, P21.4
	r := rec(3, 4)
	f := made(t, loopNode(by(0, 1, 0), 3))
	becomes(t, f, at(9, 2, 5), r, at(9, 3, 5), r)
	goes(t, f, at(9, 3, 5), r)
	goes(t, made(t, loopNode(by(1, 0, 0), 64)), at(last, 0, 0), r)
	still := made(t, loopNode(by(0, 0, 0), 0))
	whole := made(t, joinNode())
	for _, u := range times() {
		becomes(t, still, u, r, u, r)
		becomes(t, whole, u, r, u, r)
	}
	refused(t, api.Node{Kind: api.KSum, Ins: 1, Outs: 1}, api.ErrKind)
	if k := Kind(f); k != api.KLoop {
		t.Errorf("Kind of the loop = %d", k)
	}
}

// noKinds are numbers of which New makes no Flow.
func noKinds() []int {
	return []int{api.KInput, api.KSum, api.KProbe, api.KFree, 0, 9, 10, 12, 20, -1, -2, -3, -4, -5, 255, 256 + api.KMap, 1<<8 + api.KJoin, 1<<16 + api.KFilter, 1<<32 + api.KLoop, math.MaxInt32, math.MinInt32, math.MaxInt, math.MaxInt - 1, math.MinInt, math.MinInt + api.KMap, math.MinInt + api.KFilter, math.MinInt + api.KJoin, math.MinInt + api.KLoop}
}

func TestOnlyFourKinds(t *testing.T) { // P21.1
	for _, n := range []api.Node{mapNode(), filterNode(), joinNode(), loopNode(by(1, 0, 0), 1)} {
		made(t, n)
	}
	codes := [][]api.Op{nil, ops(op(1, 9)), ops(op(21, 9)), ops(op(0, 0)), repeated(op(1, 0), 17)}
	for _, kind := range noKinds() {
		for _, l := range codes {
			refused(t, api.Node{Kind: kind, Ins: 1, Outs: 1, Code: l, By: by(1, 0, 0), Bound: 1}, api.ErrKind)
			refused(t, api.Node{Kind: kind, Code: l}, api.ErrKind)
		}
	}
}

func TestHowManyInstructionsMayBe(t *testing.T) { // P21.1
	for many := range api.MaxCode + 1 {
		made(t, mapNode(repeated(op(9, 1), many)...))
		made(t, filterNode(repeated(op(27, 9), many)...))
	}
	for _, many := range []int{17, 18, 32, 256, 1 << 16} {
		for _, o := range ops(op(9, 1), op(27, 9), op(0, 0), op(-1, 0)) { // how many there are is asked ahead of what they are: P20.1
			refused(t, mapNode(repeated(o, many)...), api.ErrLong)
			refused(t, filterNode(repeated(o, many)...), api.ErrLong)
		}
	}
	made(t, mapNode(ops()...))
	made(t, filterNode(ops()...))
}

func TestABadInstructionAtEachPlace(t *testing.T) { // P21.1
	bad := ops(op(0, 0), op(11, 0), op(20, 0), op(29, 0), op(-1, 0), op(math.MinInt, 0), op(math.MaxInt, 0), op(3, 0), op(7, 1), op(8, last), op(28, 1))
	for many := 1; many <= api.MaxCode; many++ {
		for place := range many {
			l, m := repeated(op(9, 1), many), repeated(op(22, 0), many)
			made(t, mapNode(l...))
			made(t, filterNode(m...))
			for _, o := range bad {
				l[place], m[place] = o, o
				refused(t, mapNode(l...), api.ErrCode)
				refused(t, filterNode(m...), api.ErrCode)
			}
			l[place], m[place] = op(22, 0), op(9, 1)
			refused(t, mapNode(l...), api.ErrCode)
			refused(t, filterNode(m...), api.ErrCode)
		}
	}
}

func TestCodeOfTheOtherKind(t *testing.T) { // P21.1
	for kind := 1; kind <= 10; kind++ {
		arg := uint64(min(1, max(0, 7-kind))) // 7 and 8 have none
		made(t, mapNode(op(kind, arg)))
		refused(t, filterNode(op(kind, arg)), api.ErrCode)
	}
	for kind := 21; kind <= 28; kind++ {
		made(t, filterNode(op(kind, 0)))
		refused(t, mapNode(op(kind, 0)), api.ErrCode)
	}
}

// besides are the ports and fields that no kind needs, at any values.
func besides() []api.Node {
	var l []api.Node
	for _, number := range []int{0, 1, 2, 4, 5, -1, math.MaxInt, math.MinInt} {
		for _, other := range []int{0, 1, -1, math.MaxInt, math.MinInt} {
			l = append(l, api.Node{Ins: number, Outs: other}, api.Node{Ins: other, Outs: number, Start: true})
		}
	}
	conns := []api.Conn{{In: -1, Out: math.MaxInt, By: by(last, last, last)}, {In: math.MinInt, Out: -1}}
	for _, many := range []int{1, 8, 9, 500} {
		l = append(l, api.Node{Ins: 1, Outs: 1, Conns: slices.Repeat(conns, many)})
	}
	return append(l, api.Node{Ins: -1, Outs: -1, Conns: []api.Conn{{}, {}}, Start: true})
}

// steps are By and Bound at any values.
func steps() []api.Node {
	var l []api.Node
	for _, p := range []api.Path{{}, by(1, 0, 0), by(0, 1, 0), by(0, 0, 1), by(last, last, last), by(half, 0, last)} {
		for _, bound := range []uint64{0, 1, 64, 65, half, last} {
			l = append(l, api.Node{By: p, Bound: bound})
		}
	}
	return l
}

func TestWhatAKindDoesNotNeedIsNotLookedAt(t *testing.T) { // P21.1
	codes := [][]api.Op{nil, ops(op(1, 9)), ops(op(21, 9)), ops(op(0, 0)), ops(op(-1, last), op(3, 0)), repeated(op(1, 0), 17), repeated(op(-9, 9), 1000)}
	u, r := at(7, last, half), rec(3, 4)
	for _, n := range besides() {
		for _, s := range steps() {
			n.By, n.Bound = s.By, s.Bound
			n.Kind, n.Code = api.KMap, ops(op(9, 2))
			becomes(t, made(t, n), u, r, u, rec(5, 6))
			n.Kind, n.Code = api.KFilter, ops(op(21, 3))
			becomes(t, made(t, n), u, r, u, r)
			goes(t, made(t, n), u, rec(4, 3))
			n.Kind, n.Code = api.KJoin, nil
			becomes(t, made(t, n), u, r, u, r)
		}
		for _, l := range codes {
			n.Kind, n.Code, n.By, n.Bound = api.KJoin, l, by(1, 1, 1), 0
			becomes(t, made(t, n), u, r, u, r)
			n.Kind, n.By, n.Bound = api.KLoop, by(1, 0, 0), 8
			becomes(t, made(t, n), u, r, at(8, last, half), r)
			goes(t, made(t, n), at(8, last, half), r)
		}
	}
}

func TestABadCodeIsRefusedWhateverElseThereIs(t *testing.T) { // P21.1
	for _, n := range besides() {
		for _, kind := range []int{api.KMap, api.KFilter} {
			n.Kind, n.Code = kind, ops(op(0, 0))
			refused(t, n, api.ErrCode)
			n.Code = repeated(op(1, 1), 17)
			refused(t, n, api.ErrLong)
		}
	}
}

func TestDoOfAMap(t *testing.T) { // P21.2
	none := made(t, mapNode())
	for _, u := range times() {
		for _, r := range records() {
			becomes(t, none, u, r, u, r)
			becomes(t, made(t, mapNode(op(7, 0))), u, r, u, rec(r.Val, r.Key))
			becomes(t, made(t, mapNode(op(9, 1))), u, r, u, rec(r.Key+1, r.Val+1))
		}
	}
	u := at(half, 0, last)
	for _, c := range []struct {
		l       []api.Op
		r, want api.Record
	}{
		{ops(op(1, 9), op(5, 1)), rec(3, 4), rec(9, 5)}, // of chapter 20's examples
		{ops(op(2, last)), rec(0, 4), rec(last, 4)},
		{ops(op(3, 5)), rec(13, 4), rec(3, 4)},
		{ops(op(6, last)), rec(0, 2), rec(0, last-1)},
		{ops(op(7, 0), op(8, 0)), rec(3, 4), rec(4, 7)},
		{ops(op(9, 2)), rec(last, 1), rec(1, 3)},
		{ops(op(10, 6)), rec(3, 4), rec(6, 6)},
		{ops(op(10, 0)), rec(last, half), rec(0, 0)}, // the zero record, and not let go
		{repeated(op(9, 1), 16), rec(3, 4), rec(19, 20)},
	} {
		becomes(t, made(t, mapNode(c.l...)), u, c.r, u, c.want)
	}
}

func TestDoOfAFilter(t *testing.T) { // P21.2
	none := made(t, filterNode())
	same := made(t, filterNode(op(28, 0)))
	for _, u := range times() {
		for _, r := range records() {
			becomes(t, none, u, r, u, r)
			if r.Key == r.Val {
				becomes(t, same, u, r, u, r)
			} else {
				goes(t, same, u, r)
			}
		}
	}
	u := at(last, 1, 0)
	for _, c := range []struct {
		l            []api.Op
		passes, goes api.Record
	}{
		{ops(op(21, 3)), rec(3, 4), rec(4, 3)},
		{ops(op(22, 3)), rec(4, 3), rec(3, 4)},
		{ops(op(23, half)), rec(half-1, last), rec(half, 0)},
		{ops(op(24, last)), rec(0, last), rec(last, 0)},
		{ops(op(25, last)), rec(last, 0), rec(0, last)},
		{ops(op(26, last)), rec(last, last-1), rec(0, last)},
		{ops(op(27, 4)), rec(3, 3), rec(3, 4)},
		{ops(op(27, 4)), rec(0, 0), rec(4, 3)},
		{ops(op(21, 3), op(26, 5)), rec(3, 4), rec(3, 5)},
		{ops(op(21, 3), op(26, 5)), rec(3, 0), rec(2, 4)},
		{append(repeated(op(22, 0), 15), op(24, 7)), rec(1, 7), rec(1, 8)},
	} {
		f := made(t, filterNode(c.l...))
		becomes(t, f, u, c.passes, u, c.passes)
		goes(t, f, u, c.goes)
		becomes(t, f, at(0, 0, 0), c.passes, at(0, 0, 0), c.passes)
		goes(t, f, at(0, 0, 0), c.goes)
	}
	never := made(t, filterNode(op(23, 0)))
	for _, r := range records() {
		goes(t, never, u, r)
	}
}

func TestDoOfAJoin(t *testing.T) { // P21.2
	f := made(t, joinNode())
	for _, u := range times() {
		for _, r := range records() {
			becomes(t, f, u, r, u, r)
		}
	}
}

// own is a Flow of a type that isn't the package's.
type own struct{}

func (own) Do(t api.Time, r api.Record) (api.Time, api.Record, bool) { return t, r, true }

// held has a Flow inside, whose Do it lends.
type held struct{ Flow }

// far is a type whose own nil is a Flow.
type far struct{ n int }

func (f *far) Do(t api.Time, r api.Record) (api.Time, api.Record, bool) { return t, r, f.n > 0 }

func TestKind(t *testing.T) { // P21.4
	for _, n := range []api.Node{mapNode(), mapNode(op(1, 1)), filterNode(), filterNode(op(23, 0)), joinNode(), {Kind: api.KJoin}, loopNode(by(0, 0, 0), 0), loopNode(by(1, 2, 3), 4), {Kind: api.KLoop}} {
		f := made(t, n) // asks for the kind
		f.Do(at(1, 2, 3), rec(4, 5))
		if k := Kind(f); k != n.Kind {
			t.Errorf("Kind of New(%v) behind a Do = %d", n, k)
		}
		for _, other := range []Flow{held{f}, &held{f}, held{held{f}}, struct{ Flow }{f}} {
			if k := Kind(other); k != 0 {
				t.Errorf("Kind of one that has New(%v) inside = %d", n, k)
			}
		}
	}
	for i, f := range []Flow{nil, own{}, &own{}, (*own)(nil), held{}, &held{}, (*held)(nil), &far{}, (*far)(nil)} {
		if k := Kind(f); k != 0 {
			t.Errorf("Kind of other %d = %d", i, k)
		}
	}
}

func TestKindOfOneThatNewDidNotMake(t *testing.T) { // P21.4
	for _, f := range []Flow{&mapper{}, &filter{}, &join{}, &loop{}, &mapper{code: ops(op(1, 1))}, &filter{code: ops(op(21, 1))}, &loop{by: by(1, 0, 0), limit: at(1, last, last)}} {
		if k := Kind(f); k != 0 {
			t.Errorf("Kind of %T = %d", f, k)
		}
	}
}

func TestNilOnes(t *testing.T) { // P1, P21.4
	for _, f := range []Flow{(*mapper)(nil), (*filter)(nil), (*join)(nil), (*loop)(nil)} {
		if k := Kind(f); k != 0 {
			t.Errorf("Kind of a nil %T = %d", f, k)
		}
		for _, u := range times() {
			goes(t, f, u, rec(3, 4))
		}
	}
}
