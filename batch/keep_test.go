package batch

import (
	"bytes"
	"math"
	"runtime"
	"slices"
	"sync"
	"testing"

	"sluice/api"
)

func TestAListHandedInStaysAsItWas(t *testing.T) { // P2
	for _, wrong := range []bool{false, true} {
		l := many(5)
		if wrong {
			l[4].N = 0
		}
		room := append(slices.Clone(l), change(9, 9, 9), change(8, 8, 8))
		was := slices.Clone(room)
		b, e := Put(room[:5:7])
		if (e != api.OK) != wrong || !slices.Equal(room, was) {
			t.Errorf("what was handed in is changed, or %d", e)
		}
		kept := bytes.Clone(b)
		clear(room)
		if !bytes.Equal(b, kept) {
			t.Error("what was handed in is kept")
		}
	}
}

func TestBytesHandedInStayAsTheyWere(t *testing.T) { // P2
	form := laid(5, many(5)...)
	room := append(bytes.Clone(form), 7, 7, 7)
	was := bytes.Clone(room)
	l, err := Get(room[:len(form)])
	if err != nil || !bytes.Equal(room, was) {
		t.Errorf("what was handed in is changed, or %v", err)
	}
	faulty(t, room[:len(form)+1], len(form), api.ErrRest)
	faulty(t, room[:len(form)-1], len(form)-1, api.ErrShort)
	if !bytes.Equal(room, was) {
		t.Error("what was handed in is changed beside a fault")
	}
	clear(room)
	if !slices.Equal(l, many(5)) {
		t.Error("what was handed in is kept")
	}
}

func TestWhatIsAnsweredIsNewMemory(t *testing.T) { // P2, P5
	l, form := many(3), laid(3, many(3)...)
	b, _ := Put(l)
	c, _ := Put(l)
	clear(b[:cap(b)])
	if grown := append(b, 1, 2, 3); !bytes.Equal(c, form) || len(grown) == 0 {
		t.Error("two answers of Put share memory")
	}
	x, _ := Get(form)
	y, _ := Get(form)
	clear(x[:cap(x)])
	if grown := append(x, change(1, 1)); !slices.Equal(y, l) || len(grown) == 0 {
		t.Error("two answers of Get share memory")
	}
	comes(t, form, l...)
	_, one := Get([]byte{0})
	_, other := Get([]byte{0})
	f, g := one.(*Fault), other.(*Fault)
	*f = Fault{77, api.ErrRest}
	if *g != (Fault{0, api.ErrForm}) {
		t.Error("two faults share memory")
	}
	faulty(t, []byte{0}, 0, api.ErrForm)
}

// taken is how many bytes of memory one Get of some bytes takes.
func taken(b []byte) int {
	const often = 500
	var ahead, behind runtime.MemStats
	runtime.ReadMemStats(&ahead)
	for range often {
		Get(b)
	}
	runtime.ReadMemStats(&behind)
	return int(behind.TotalAlloc-ahead.TotalAlloc) / often
}

func TestMemoryIsTakenAsChangesCome(t *testing.T) { // P15.2
	few := taken(laid(2, many(1)...))
	for _, told := range []uint64{100, 5000, 1 << 20, 1 << 31, 1 << 32, 1 << 62, 1 << 63, math.MaxUint64 - 1, math.MaxUint64} {
		b := laid(told, many(1)...)
		faulty(t, b, len(b), api.ErrShort)
		if lots := taken(b); lots > few+200 {
			t.Errorf("where 2 are told %d bytes are taken, where %d are told %d", few, told, lots)
		}
		faulty(t, plainForm(told), len(plainForm(told)), api.ErrShort)
	}
}

func TestManyAtOnce(t *testing.T) { // P3
	l := many(50)
	form := laid(50, l...)
	var all sync.WaitGroup
	for range 8 {
		all.Go(func() {
			for range 50 {
				b, e := Put(l)
				back, err := Get(form)
				if e != api.OK || err != nil || !bytes.Equal(b, form) || !slices.Equal(back, l) {
					t.Error("something else is answered where many ask")
				}
				if _, err := Get(form[:len(form)-1]); err == nil || err.Error() == "" {
					t.Error("no fault where many ask")
				}
			}
		})
	}
	all.Wait()
}
