package batch

import (
	"bytes"
	"math"
	"slices"
	"testing"

	"sluice/api"
	"sluice/draws"
)

// drawer draws lists; odd says how often something may not be (0: never).
type drawer struct {
	next func(below int) int
	odd  int
}

func (d drawer) strange() bool { return d.odd > 0 && d.next(d.odd) == 0 }

func (d drawer) number() uint64 {
	v := uint64(d.next(1<<31))<<33 ^ uint64(d.next(1<<31))<<20 ^ uint64(d.next(1<<31))
	return []uint64{uint64(d.next(3)), uint64(d.next(300)), last - uint64(d.next(2)), v >> d.next(64)}[d.next(4)]
}

func (d drawer) place() int {
	if d.strange() {
		return []int{-1, 192, -int(d.number()>>1) - 1, 192 + int(d.number()>>2), math.MinInt}[d.next(5)]
	}
	return []int{d.next(3), d.next(192), 190 + d.next(2)}[d.next(3)]
}

func (d drawer) count() int64 {
	if d.strange() {
		return []int64{0, 0, most + 1, -most - 1, int64(d.number()>>1) + most + 1, math.MinInt64}[d.next(6)]
	}
	n := int64(1 + []int{d.next(3), d.next(100), d.next(most), most - 1}[d.next(4)])
	return n - 2*n*int64(d.next(2))
}

// list draws one, mostly in its order, since it is sorted ahead of what is strange in it.
func (d drawer) list() []api.Change {
	var l []api.Change
	for range d.next(1 + d.next(9)) {
		l = append(l, change(1, d.place(), d.number(), d.number(), d.number()))
	}
	slices.SortFunc(l, func(a, b api.Change) int {
		if a.S == b.S {
			return 0
		}
		if plainBehind(a, b) {
			return 1
		}
		return -1
	})
	if d.odd == 0 {
		l = slices.CompactFunc(l, func(a, b api.Change) bool { return a.S == b.S })
	}
	for i := range l {
		l[i].N = d.count()
		if d.strange() {
			l[i].S = l[d.next(len(l))].S
		}
		if d.strange() {
			l[i].S.At = d.place()
		}
	}
	return l
}

func TestPutAsTheWordsHaveIt(t *testing.T) { // P15.1, P15.3, P4
	next := draws.Numbers(151)
	often := map[api.Errno]int{}
	long := 0
	for round := range 40000 {
		l := drawer{next, []int{0, 3, 10, 30}[round%4]}.list()
		b, e := Put(l)
		want, f := plainPut(l)
		if e != f || !bytes.Equal(b, want) {
			t.Fatalf("Put(%v): % x, %d, want % x, %d", l, b, e, want, f)
		}
		often[e]++
		if e != api.OK {
			continue
		}
		if len(l) > 3 {
			long++
		}
		if back, err := Get(b); err != nil || !slices.Equal(back, l) {
			t.Fatalf("Get of Put(%v): %v, %v", l, back, err)
		}
	}
	if often[api.OK] < 5000 || often[api.ErrRange] < 5000 || often[api.ErrForm] < 1000 || long < 2000 {
		t.Errorf("drawn: %v, long ones %d", often, long)
	}
}

// getBoth reads some bytes by Get and by its words, and what it takes is put anew.
func getBoth(t *testing.T, b []byte) api.Errno {
	t.Helper()
	want, fault := plainGet(b)
	l, err := Get(b)
	if fault.Err != api.OK {
		if f, ok := err.(*Fault); !ok || *f != fault || len(l) != 0 {
			t.Fatalf("Get(% x): %v, %v, want %v", b, l, err, fault)
		}
		return fault.Err
	}
	if err != nil || !slices.Equal(l, want) {
		t.Fatalf("Get(% x): %v, %v, want %v", b, l, err, want)
	}
	if anew, e := Put(l); e != api.OK || !bytes.Equal(anew, b) {
		t.Fatalf("Get takes % x, of which Put answers % x, %d", b, anew, e)
	}
	return api.OK
}

func TestGetOfChangedBytesAsTheWordsHaveIt(t *testing.T) { // P15.2, P15.3, P4
	next := draws.Numbers(152)
	often := map[api.Errno]int{}
	some := []byte{0, 1, 2, 3, 7, 127, 128, 129, 255}
	for range 5000 {
		form, _ := plainPut(drawer{next, 0}.list())
		for range 10 {
			b := bytes.Clone(form)
			for range 1 + next(2) {
				at := next(1 + next(len(b)+1))
				behind := min(len(b), at+next(2))
				more := []byte{some[next(len(some))], some[next(len(some))]}[:next(3)]
				b = slices.Concat(b[:at], more, b[behind:])
			}
			often[getBoth(t, b)]++
		}
	}
	for _, e := range []api.Errno{api.OK, api.ErrShort, api.ErrForm, api.ErrRange, api.ErrRest} {
		if often[e] < 500 {
			t.Errorf("error %d came %d times only", e, often[e])
		}
	}
}

func TestGetOfWrongChangesAsTheWordsHaveIt(t *testing.T) { // P15.2, P4
	next := draws.Numbers(153)
	often := map[api.Errno]int{}
	for range 20000 {
		l := drawer{next, 8}.list()
		for i := range l {
			l[i].S.At = max(l[i].S.At, 0) // bytes have no form for a place below 0
		}
		many := uint64(max(0, len(l)+[]int{0, 0, 0, 1, -1}[next(5)]))
		often[getBoth(t, laid(many, l...))]++
	}
	for _, e := range []api.Errno{api.OK, api.ErrShort, api.ErrForm, api.ErrRange, api.ErrRest} {
		if often[e] < 500 {
			t.Errorf("error %d came %d times only", e, often[e])
		}
	}
}

func TestGetOfShortBytesAsTheWordsHaveIt(t *testing.T) { // P15.2, P15.3, P4
	some := []byte{0, 1, 2, 128, 192}
	taken := 0
	var try func(b []byte)
	try = func(b []byte) {
		if getBoth(t, b) == api.OK {
			taken++
		}
		if len(b) < 8 {
			for _, x := range some {
				try(append(bytes.Clone(b), x))
			}
		}
	}
	try(nil)
	if taken < 100 {
		t.Errorf("%d were the bytes of a list", taken)
	}
}

func TestGetOfBytesBehindAListAsTheWordsHaveIt(t *testing.T) { // P15.2, P4
	some := []byte{0, 1, 2, 3, 128}
	var try func(b []byte, more int)
	try = func(b []byte, more int) {
		getBoth(t, b)
		if more > 0 {
			for _, x := range some {
				try(append(bytes.Clone(b), x), more-1)
			}
		}
	}
	try(laid(2, change(1, 1, 1, 1, 1)), 7)
}
