package batch

import (
	"encoding/hex"
	"errors"
	"math"
	"slices"
	"strconv"
	"strings"
	"testing"

	"sluice/api"
)

const (
	most = api.MaxCount
	last = math.MaxUint64
)

// change is N at a place and a time; numbers of the time that aren't told are 0.
func change(n int64, place int, numbers ...uint64) api.Change {
	var t [api.MaxArity]uint64
	copy(t[:], numbers)
	return api.Change{S: api.Stamp{At: place, T: api.Time{A: t[0], B: t[1], C: t[2]}}, N: n}
}

// bytesOf are those that are written in base 16.
func bytesOf(t *testing.T, text string) []byte {
	t.Helper()
	b, err := hex.DecodeString(strings.ReplaceAll(text, " ", ""))
	if err != nil {
		t.Fatal(err)
	}
	return b
}

// goes looks that a list goes there and back as these bytes.
func goes(t *testing.T, text string, l ...api.Change) {
	t.Helper()
	b, e := Put(l)
	if want := bytesOf(t, text); e != api.OK || string(b) != string(want) {
		t.Errorf("Put(%v): % x, %d, want % x", l, b, e, want)
	}
	comes(t, bytesOf(t, text), l...)
}

// comes looks that bytes are those of a list.
func comes(t *testing.T, b []byte, want ...api.Change) {
	t.Helper()
	l, err := Get(b)
	if err != nil || !slices.Equal(l, want) {
		t.Errorf("Get(% x): %v, %v, want %v", b, l, err, want)
	}
}

// refuses looks that Put doesn't take a list.
func refuses(t *testing.T, want api.Errno, l ...api.Change) {
	t.Helper()
	b, e := Put(l)
	if e != want || len(b) != 0 {
		t.Errorf("Put(%v): % x, %d, want %d", l, b, e, want)
	}
}

// faulty looks that Get answers this fault and nothing else.
func faulty(t *testing.T, b []byte, at int, e api.Errno) {
	t.Helper()
	l, err := Get(b)
	f, ok := err.(*Fault)
	if !ok || f == nil || *f != (Fault{at, e}) || len(l) != 0 {
		t.Errorf("Get(% x): %v, %v, want %d at %d", b, l, err, e, at)
	}
}

func TestTheChaptersExamples(t *testing.T) { // P15.1, P15.2, P15.3
	a, b := change(-1, 3, 1), change(300, 3, 2)
	goes(t, "02 03 01 00 00 01 03 02 00 00 D8 04", a, b)
	goes(t, "")
	refuses(t, api.ErrForm, b, a)
	refuses(t, api.ErrForm, change(0, 3, 1), b)
	refuses(t, api.ErrForm, a, change(0, 3, 2))
	refuses(t, api.ErrRange, change(-1, 192, 1))
	refuses(t, api.ErrRange, change(0, -1, 1))
	for _, c := range []struct {
		text string
		at   int
		e    api.Errno
	}{
		{"00", 0, api.ErrForm},
		{"02 03 01 00 00 01", 6, api.ErrShort},
		{"01 80 00", 1, api.ErrForm},
		{"01 80 00 01 00 00 01", 1, api.ErrForm},
		{"01 03 01 00 00 00", 5, api.ErrForm},
		{"02 03 02 00 00 01 03 01 00 00 01", 6, api.ErrForm},
		{"01 03 01 00 00 01 00", 6, api.ErrRest},
		{"01 C0 01", 1, api.ErrRange},
		{"01 C0 01 01 00 00 01", 1, api.ErrRange},
	} {
		faulty(t, bytesOf(t, c.text), c.at, c.e)
	}
}

func TestNoChanges(t *testing.T) { // P15.1, P15.2, P2
	goes(t, "")
	for _, l := range [][]api.Change{nil, {}, make([]api.Change, 0, 3)} {
		if b, e := Put(l); len(b) != 0 || e != api.OK {
			t.Errorf("Put of none: % x, %d", b, e)
		}
	}
	for _, b := range [][]byte{nil, {}, make([]byte, 0, 3)} {
		if l, err := Get(b); len(l) != 0 || err != nil {
			t.Errorf("Get of no bytes: %v, %v", l, err)
		}
	}
}

func TestTheEndsOfTheRanges(t *testing.T) { // P15.1, P15.2, P15.3
	goes(t, "01 00 00 00 00 02", change(1, 0))
	goes(t, "01 BF 01 00 00 00 01", change(-1, 191))
	goes(t, "01 07 00 00 00 FE FF FF FF 0F", change(most, 7))
	goes(t, "01 07 00 00 00 FD FF FF FF 0F", change(-most, 7))
	goes(t, "01 07 FF FF FF FF FF FF FF FF FF 01 00 00 02", change(1, 7, last))
	goes(t, "01 07 00 FF FF FF FF FF FF FF FF FF 01 00 02", change(1, 7, 0, last))
	goes(t, "01 07 00 00 FF FF FF FF FF FF FF FF FF 01 02", change(1, 7, 0, 0, last))
	// Each of a time's numbers has a place of its own, whatever the others.
	goes(t, "01 05 01 02 03 08", change(4, 5, 1, 2, 3))
	goes(t, "01 7F 80 01 7F 80 02 7E", change(63, 127, 128, 127, 256))
}

func TestPlacesAndCountsBeyondTheirRanges(t *testing.T) { // P15.1
	for _, place := range []int{-1, -2, 192, 193, 255, 256, 1 << 32, 1<<32 + 5, math.MinInt, math.MaxInt} {
		refuses(t, api.ErrRange, change(1, place))
		refuses(t, api.ErrRange, change(1, 0), change(1, place))
	}
	for _, n := range []int64{most + 1, most + 2, 1 << 32, 1<<32 + 1, math.MaxInt64, -most - 1, -most - 2, -1 << 32, math.MinInt64} {
		refuses(t, api.ErrRange, change(n, 3))
		refuses(t, api.ErrRange, change(1, 3), change(n, 3, 1))
	}
	for _, l := range [][]api.Change{{change(0, 3)}, {change(1, 3), change(0, 4)}, {change(0, 0), change(1, 4)}} {
		refuses(t, api.ErrForm, l...)
	}
}

func TestWhichErrorComesFirstInAChange(t *testing.T) { // P15.1, P4
	for _, place := range []int{-1, 192} {
		for _, n := range []int64{0, 1, most + 1, -most - 1} {
			refuses(t, api.ErrRange, change(n, place))
			// Not behind the one before, either.
			refuses(t, api.ErrRange, change(1, 191, last, last, last), change(n, place))
		}
	}
	refuses(t, api.ErrRange, change(1, 5), change(most+1, 5))
	refuses(t, api.ErrRange, change(1, 5), change(-most-1, 4))
	refuses(t, api.ErrForm, change(1, 5), change(0, 4))
}

func TestWhichErrorComesFirstOverSeveral(t *testing.T) { // P15.1, P4
	fine, zero := change(1, 5), change(0, 6)
	back, far, much := change(1, 4), change(1, 192), change(most+1, 7)
	for _, c := range []struct {
		e api.Errno
		l []api.Change
	}{
		{api.ErrForm, []api.Change{zero, far}},
		{api.ErrForm, []api.Change{zero, much}},
		{api.ErrForm, []api.Change{fine, back, far}},
		{api.ErrForm, []api.Change{fine, zero, much}},
		{api.ErrForm, []api.Change{fine, fine, much}},
		{api.ErrRange, []api.Change{far, zero}},
		{api.ErrRange, []api.Change{much, back}},
		{api.ErrRange, []api.Change{fine, much, zero}},
		{api.ErrRange, []api.Change{fine, far, back}},
	} {
		refuses(t, c.e, c.l...)
	}
}

// steps: pairs of changes, the second behind the first by the place alone, or by one of a time's numbers, whatever those that are asked later.
func steps() [][2]api.Change {
	return [][2]api.Change{
		{change(1, 4, 7, 7, 7), change(1, 5, 7, 7, 7)},
		{change(1, 4, 7, 7, 7), change(1, 4, 8, 7, 7)},
		{change(1, 4, 7, 7, 7), change(1, 4, 7, 8, 7)},
		{change(1, 4, 7, 7, 7), change(1, 4, 7, 7, 8)},
		{change(1, 4, 7, 7, 7), change(1, 5)},
		{change(1, 4, 7, 7, 7), change(1, 4, 8)},
		{change(1, 4, 7, 7, 7), change(1, 4, 7, 8)},
		{change(1, 0), change(1, 191)},
		{change(1, 0), change(1, 0, last)},
		{change(1, 0), change(1, 0, 0, last)},
		{change(1, 0), change(1, 0, 0, 0, last)},
		{change(1, 0, 1<<63-1), change(1, 0, 1<<63)},
		{change(1, 0, 0, 1<<63-1), change(1, 0, 0, 1<<63)},
		{change(1, 0, 0, 0, 1<<63-1), change(1, 0, 0, 0, 1<<63)},
		{change(1, 9, 0, last, last), change(1, 9, 1)},
		{change(1, 9, 0, 0, last), change(1, 9, 0, 1)},
		{change(1, 9, last, last, last), change(1, 10)},
		{change(9, 4, 7), change(-9, 4, 8)},
		{change(-9, 4, 7), change(9, 4, 8)},
	}
}

// laid is the bytes of some changes whatever their order, in front of which many is told.
func laid(many uint64, l ...api.Change) []byte {
	b := plainForm(many)
	for _, c := range l {
		b = append(b, plainChange(c)...)
	}
	return b
}

func TestTheOrder(t *testing.T) { // P15.1, P15.2
	for _, s := range steps() {
		fore, aft := s[0], s[1]
		for _, ahead := range [][]api.Change{nil, {change(5, 0)}} {
			if len(ahead) > 0 && fore.S.At == 0 {
				continue
			}
			many := uint64(len(ahead) + 2)
			comes(t, laid(many, append(ahead, fore, aft)...), append(ahead, fore, aft)...)
			if b, e := Put(append(ahead, fore, aft)); e != api.OK || string(b) != string(laid(many, append(ahead, fore, aft)...)) {
				t.Errorf("Put of %v: % x, %d", append(ahead, fore, aft), b, e)
			}
			refuses(t, api.ErrForm, append(ahead, aft, fore)...)
			refuses(t, api.ErrForm, append(ahead, fore, fore)...)
			faulty(t, laid(many, append(ahead, aft, fore)...), len(laid(many, append(ahead, aft)...)), api.ErrForm)
			faulty(t, laid(many, append(ahead, fore, fore)...), len(laid(many, append(ahead, fore)...)), api.ErrForm)
		}
	}
}

func TestAlikeButForN(t *testing.T) { // P15.1, P15.2
	for _, n := range []int64{-2, -1, 1, 2} {
		refuses(t, api.ErrForm, change(1, 3, 1), change(n, 3, 1))
		faulty(t, laid(2, change(1, 3, 1), change(n, 3, 1)), 6, api.ErrForm)
	}
	// Each is held against the one before, not against the first.
	refuses(t, api.ErrForm, change(1, 3), change(1, 5), change(1, 4))
	faulty(t, laid(3, change(1, 3), change(1, 5), change(1, 4)), 11, api.ErrForm)
}

// many is as long a list as is asked, in form.
func many(length int) []api.Change {
	var l []api.Change
	for i := range length {
		l = append(l, change(int64(i%5)-7, i*192/length, uint64(i), uint64(length-i), 3))
	}
	return l
}

func TestManyChanges(t *testing.T) { // P15.1, P15.2, P15.3
	for _, length := range []int{1, 2, 3, 127, 128, 129, 5000, 70000} {
		l := many(length)
		b, e := Put(l)
		if e != api.OK || string(b) != string(laid(uint64(length), l...)) {
			t.Fatalf("Put of %d: %d bytes, %d", length, len(b), e)
		}
		if back, err := Get(b); err != nil || !slices.Equal(back, l) {
			t.Fatalf("Get of %d: %d, %v", length, len(back), err)
		}
	}
}

func TestAFaultAtTheNumberOfChanges(t *testing.T) { // P15.2
	for text, e := range map[string]api.Errno{
		"00":                               api.ErrForm,
		"00 00":                            api.ErrForm,
		"00 03 01 00 00 01":                api.ErrForm,
		"80":                               api.ErrShort,
		"FF FF":                            api.ErrShort,
		"80 00":                            api.ErrForm,
		"81 00 03 01 00 00 01":             api.ErrForm,
		"FF FF FF FF FF FF FF FF FF":       api.ErrShort,
		"FF FF FF FF FF FF FF FF FF 02":    api.ErrForm,
		"FF FF FF FF FF FF FF FF FF 81 01": api.ErrForm,
		"80 80 80 80 80 80 80 80 80 00":    api.ErrForm,
	} {
		faulty(t, bytesOf(t, text), 0, e)
	}
}

// badNumbers: bytes that are no number's, with the errors that they are.
func badNumbers() map[string]api.Errno {
	return map[string]api.Errno{
		"":                              api.ErrShort,
		"80":                            api.ErrShort,
		"FF FF FF":                      api.ErrShort,
		"80 00":                         api.ErrForm,
		"83 80 00":                      api.ErrForm,
		"FF FF FF FF FF FF FF FF FF 02": api.ErrForm,
		"FF FF FF FF FF FF FF FF FF 80": api.ErrForm,
	}
}

func TestAFaultAtEachNumberOfAChange(t *testing.T) { // P15.2, P4
	// Longer forms, so that the numbers begin at other places than they have numbers.
	ahead := []string{"01", "02 03 01 00 00 01", "03 00 00 00 00 02 03 80 01 07 AC 02 D8 04"}
	numbers := []string{"85 01", "07", "81 01", "09", "01"}
	for _, fore := range ahead {
		for nth := range numbers {
			begun := bytesOf(t, fore+strings.Join(numbers[:nth], ""))
			for text, e := range badNumbers() {
				faulty(t, append(begun, bytesOf(t, text)...), len(begun), e)
				if e != api.ErrShort {
					faulty(t, append(begun, bytesOf(t, text+"00 00 00 00 00 00 00")...), len(begun), e)
				}
			}
		}
	}
}

func TestPlacesAndCountsBeyondTheirRangesInBytes(t *testing.T) { // P15.2, P4
	for _, fore := range []string{"01", "02 03 01 00 00 01", "02 BF 01 FF 01 FF 01 FF 01 01"} {
		begun := bytesOf(t, fore)
		for _, place := range []uint64{192, 193, 255, 256, 1 << 31, 1 << 32, 1<<32 + 5, 1 << 63, last} {
			b := append(begun, plainForm(place)...)
			faulty(t, b, len(begun), api.ErrRange)
			faulty(t, append(b, 0x80, 0, 0, 0, 0), len(begun), api.ErrRange)
			faulty(t, append(b, 1, 0, 0, 0), len(begun), api.ErrRange)
		}
		for _, n := range []int64{most + 1, most + 2, 1 << 32, math.MaxInt64, -most - 1, -most - 2, -1 << 32, math.MinInt64} {
			for _, place := range []int{150, 0} { // at 0 it isn't behind the one before, either
				ahead := len(begun) + len(plainForm(uint64(place))) + 3
				b := append(begun, plainChange(change(n, place, 1))...)
				faulty(t, b, ahead, api.ErrRange)
				faulty(t, append(b, 0), ahead, api.ErrRange)
			}
		}
	}
}

func TestNOf0InBytes(t *testing.T) { // P15.2, P4
	faulty(t, laid(1, change(0, 3, 300)), 6, api.ErrForm)
	faulty(t, laid(2, change(1, 3), change(0, 150, 1, 2, 3)), 11, api.ErrForm)
	// Ahead of that it isn't behind the one before, and of a byte left over.
	faulty(t, laid(2, change(1, 3), change(0, 2)), 10, api.ErrForm)
	faulty(t, append(laid(1, change(0, 3)), 9), 5, api.ErrForm)
}

func TestBytesLeftOver(t *testing.T) { // P15.2
	for _, length := range []int{1, 2, 3, 200} {
		b := laid(uint64(length), many(length)...)
		for _, rest := range [][]byte{{0}, {0x80}, {0xff}, {1, 2, 3, 4, 5, 6}, plainChange(change(1, 191, last))} {
			faulty(t, append(b, rest...), len(b), api.ErrRest)
		}
	}
	// One change more than is told is left over too; one less is short.
	two := []api.Change{change(1, 3), change(1, 4)}
	faulty(t, laid(1, two...), 6, api.ErrRest)
	faulty(t, laid(3, two...), 11, api.ErrShort)
}

func TestEachBeginningIsShort(t *testing.T) { // P15.3
	for _, l := range [][]api.Change{
		{change(1, 0)},
		{change(-most, 191, last, last-1, 1<<63)},
		{change(-1, 3, 1), change(300, 3, 2)},
		many(3), many(130), many(300),
	} {
		b, e := Put(l)
		if e != api.OK {
			t.Fatal(e)
		}
		for i := 1; i < len(b); i++ {
			if l, err := Get(b[:i]); len(l) != 0 || !errors.Is(err, api.ErrShort) {
				t.Fatalf("Get of the first %d of % x: %v, %v", i, b, l, err)
			}
		}
	}
}

func TestAFaultInWords(t *testing.T) { // P15.2, P15.4
	for _, f := range []Fault{{0, api.ErrForm}, {6, api.ErrShort}, {70000, api.ErrRest}, {5, api.ErrRange}, {-3, api.ErrForm}} {
		want := "batch: at " + strconv.Itoa(f.At) + ": " + f.Err.Error()
		if got := f.Error(); got != want {
			t.Errorf("Error: %q, want %q", got, want)
		}
		if got := f.Unwrap(); got != error(f.Err) {
			t.Errorf("Unwrap: %v, want %v", got, f.Err)
		}
	}
	_, err := Get([]byte{2, 3, 1, 0, 0, 1})
	if err == nil || err.Error() != "batch: at 6: error 30" {
		t.Errorf("Error: %v", err)
	}
}

// wrapped is an error round another one.
type wrapped struct{ error }

func (w wrapped) Unwrap() error { return w.error }

func TestWhatIsFoundInAFault(t *testing.T) { // P15.2
	for text, e := range map[string]api.Errno{"00": api.ErrForm, "01": api.ErrShort, "01 C0 01": api.ErrRange, "01 03 00 00 00 01 00": api.ErrRest} {
		_, err := Get(bytesOf(t, text))
		for _, asked := range []error{err, wrapped{err}} {
			for _, other := range []api.Errno{api.OK, api.ErrShort, api.ErrForm, api.ErrRange, api.ErrRest} {
				if errors.Is(asked, other) != (other == e) {
					t.Errorf("%v: Is(%v): %v", asked, other, other != e)
				}
			}
			var f *Fault
			var number api.Errno
			if !errors.As(asked, &f) || f.Err != e || !errors.As(asked, &number) || number != e {
				t.Errorf("%v: As finds %v, %v", asked, f, number)
			}
		}
	}
}

func TestANilFault(t *testing.T) { // P15.4, P1
	var f *Fault
	if f.Error() != "" || f.Unwrap() != nil {
		t.Errorf("%q, %v", f.Error(), f.Unwrap())
	}
	var err error = f
	var number api.Errno
	if errors.Is(err, api.OK) || errors.As(err, &number) || errors.Unwrap(err) != nil {
		t.Errorf("a nil one has %v inside", number)
	}
}

func TestNoFaultIsNoError(t *testing.T) { // P15.2
	for _, b := range [][]byte{nil, {}, {1, 3, 1, 0, 0, 1}} {
		if _, err := Get(b); err != nil {
			t.Errorf("Get(% x): an error of type %T", b, err)
		}
	}
}
