package wire

import (
	"bytes"
	"math"
	"slices"
	"strings"
	"testing"

	"sluice/api"
)

const maxNum = math.MaxUint64

// put is what a writer has behind some calls, none of which may be an error.
func put(t *testing.T, calls func(w *Writer)) string {
	t.Helper()
	w := NewWriter()
	calls(w)
	if e := w.Err(); e != api.OK {
		t.Errorf("Err: %d", e)
	}
	return string(w.Data())
}

// stands tells of a reader how many bytes it took off and its error.
func stands(t *testing.T, r *Reader, at int, e api.Errno) {
	t.Helper()
	if r.At() != at || r.Err() != e {
		t.Errorf("At: %d, want %d; Err: %d, want %d", r.At(), at, r.Err(), e)
	}
}

// numbers: each edge of a form's length, and the form.
func numbers() []struct {
	v    uint64
	form string
} {
	ff := func(n int) string { return strings.Repeat("\xff", n) }
	low := func(n int) string { return strings.Repeat("\x80", n) }
	return []struct {
		v    uint64
		form string
	}{
		{0, "\x00"}, {1, "\x01"}, {127, "\x7f"},
		{128, "\x80\x01"}, {129, "\x81\x01"}, {300, "\xac\x02"}, {1<<14 - 1, "\xff\x7f"},
		{1 << 14, low(2) + "\x01"}, {1<<21 - 1, ff(2) + "\x7f"},
		{1 << 21, low(3) + "\x01"}, {1<<28 - 1, ff(3) + "\x7f"},
		{1 << 28, low(4) + "\x01"}, {1<<32 - 1, ff(4) + "\x0f"}, {1 << 32, low(4) + "\x10"}, {1<<35 - 1, ff(4) + "\x7f"},
		{1 << 35, low(5) + "\x01"}, {1<<42 - 1, ff(5) + "\x7f"},
		{1 << 42, low(6) + "\x01"}, {1<<49 - 1, ff(6) + "\x7f"},
		{1 << 49, low(7) + "\x01"}, {1<<56 - 1, ff(7) + "\x7f"},
		{1 << 56, low(8) + "\x01"}, {1<<63 - 1, ff(8) + "\x7f"},
		{1 << 63, low(9) + "\x01"}, {1<<63 + 1, "\x81" + low(8) + "\x01"}, {maxNum - 1, "\xfe" + ff(8) + "\x01"}, {maxNum, ff(9) + "\x01"},
	}
}

func TestNum(t *testing.T) { // P7.1, P7.3, P7.4
	for _, c := range numbers() {
		if got := put(t, func(w *Writer) { w.Num(c.v) }); got != c.form {
			t.Errorf("Num(%d): % x, want % x", c.v, got, c.form)
		}
		for _, behind := range []string{"", "\x00", "\x07", "\xff"} {
			for _, most := range []uint64{c.v, c.v | 1, maxNum} {
				r := NewReader([]byte(c.form + behind))
				if v := r.Num(most); v != c.v {
					t.Errorf("Num(%d) of % x: %d", most, c.form, v)
				}
				stands(t, r, len(c.form), api.OK)
			}
		}
	}
}

func TestNumAboveMost(t *testing.T) { // P7.3, P7.4
	for _, c := range numbers() {
		for _, most := range []uint64{0, 1, c.v / 2, c.v - 1} {
			if most >= c.v {
				continue
			}
			r := NewReader([]byte("\x05" + c.form + "\x05"))
			r.Byte()
			if v := r.Num(most); v != 0 {
				t.Errorf("Num(%d) of % x: %d", most, c.form, v)
			}
			stands(t, r, 1, api.ErrRange)
		}
	}
	r := NewReader([]byte{0, 1})
	if v := r.Num(0); v != 0 {
		t.Errorf("Num(0) of 0: %d", v)
	}
	stands(t, r, 1, api.OK)
}

func TestInt(t *testing.T) { // P7.1, P7.3
	for _, c := range []struct {
		n int64
		v uint64
	}{
		{0, 0}, {-1, 1}, {1, 2}, {-2, 3}, {2, 4}, {63, 126}, {-64, 127}, {64, 128}, {-65, 129},
		{1<<13 - 1, 1<<14 - 2}, {-1 << 13, 1<<14 - 1}, {1 << 13, 1 << 14},
		{math.MaxInt32, math.MaxUint32 - 1}, {math.MinInt32, math.MaxUint32}, {1 << 31, 1 << 32},
		{1 << 62, 1 << 63}, {-1 << 62, 1<<63 - 1}, {-1<<62 - 1, 1<<63 + 1},
		{math.MaxInt64, maxNum - 1}, {math.MinInt64 + 1, maxNum - 2}, {math.MinInt64, maxNum},
	} {
		form := put(t, func(w *Writer) { w.Num(c.v) })
		if got := put(t, func(w *Writer) { w.Int(c.n) }); got != form {
			t.Errorf("Int(%d): % x, want % x", c.n, got, form)
		}
		r := NewReader([]byte(form + "\x00"))
		if n := r.Int(); n != c.n {
			t.Errorf("Int of % x: %d, want %d", form, n, c.n)
		}
		stands(t, r, len(form), api.OK)
	}
}

func TestByte(t *testing.T) { // P7.1, P7.3, P7.4
	w := NewWriter()
	var all []byte
	for b := range 256 {
		w.Byte(byte(b))
		all = append(all, byte(b))
	}
	if !bytes.Equal(w.Data(), all) {
		t.Errorf("% x", w.Data())
	}
	r := NewReader(all)
	for b := range 256 {
		stands(t, r, b, api.OK)
		if got := r.Byte(); got != byte(b) {
			t.Errorf("Byte: %d, want %d", got, b)
		}
	}
	if r.Byte() != 0 {
		t.Error("a byte behind the last one")
	}
	stands(t, r, 256, api.ErrShort)
}

func TestThingsBehindOneAnother(t *testing.T) { // P7.1, P7.3, P7.4
	got := put(t, func(w *Writer) {
		w.Num(300)
		w.Int(-1)
		w.Bytes([]byte("ab"))
		w.Byte(0x80)
		w.Bytes(nil)
		w.Bytes([]byte{})
		w.Num(0)
	})
	if got != "\xac\x02\x01\x02ab\x80\x00\x00\x00" {
		t.Errorf("% x", got)
	}
	r := NewReader([]byte(got))
	stands(t, r, 0, api.OK)
	if v := r.Num(300); v != 300 {
		t.Errorf("Num: %d", v)
	}
	stands(t, r, 2, api.OK)
	if n := r.Int(); n != -1 {
		t.Errorf("Int: %d", n)
	}
	stands(t, r, 3, api.OK)
	if b := r.Bytes(2); string(b) != "ab" {
		t.Errorf("Bytes: %q", b)
	}
	stands(t, r, 6, api.OK)
	if b := r.Byte(); b != 0x80 {
		t.Errorf("Byte: %d", b)
	}
	stands(t, r, 7, api.OK)
	if len(r.Bytes(0)) != 0 || len(r.Bytes(9)) != 0 || r.Num(0) != 0 {
		t.Error("none, none, 0")
	}
	stands(t, r, 10, api.OK)
	r.End()
	stands(t, r, 10, api.OK)
}

func TestExampleThree(t *testing.T) { // P7.3, P7.4
	r := NewReader([]byte{0xac, 2, 7})
	if r.Num(300) != 300 || r.At() != 2 || r.Byte() != 7 {
		t.Error("300, then 7")
	}
	r.End()
	stands(t, r, 3, api.OK)
	r = NewReader([]byte{0xac, 2})
	if r.Num(299) != 0 {
		t.Error("a number above most")
	}
	stands(t, r, 0, api.ErrRange)
	if r.Byte() != 0 {
		t.Error("a byte behind an error")
	}
	stands(t, r, 0, api.ErrRange)
}

func TestFormsThatMayNotBe(t *testing.T) { // P7.3, P7.4, P4
	ff, low := strings.Repeat("\xff", 9), strings.Repeat("\x80", 9)
	for _, c := range []struct {
		form string
		e    api.Errno
	}{
		{"", api.ErrShort}, {"\x80", api.ErrShort}, {"\xff", api.ErrShort}, {"\x80\x80", api.ErrShort}, {ff[:8], api.ErrShort}, {ff, api.ErrShort}, {low, api.ErrShort},
		{"\x80\x00", api.ErrForm}, {"\xff\x00", api.ErrForm}, {"\x81\x80\x00", api.ErrForm}, {low[:8] + "\x00", api.ErrForm}, {ff[:8] + "\x00\x01", api.ErrForm},
		{ff + "\x00", api.ErrForm}, {low + "\x00", api.ErrForm},
		{ff + "\x02", api.ErrForm}, {low + "\x02", api.ErrForm}, {ff + "\x03", api.ErrForm}, {ff + "\x7f", api.ErrForm},
		{ff + "\x80", api.ErrForm}, {ff + "\x81", api.ErrForm}, {ff + "\xff", api.ErrForm}, {low + "\x80", api.ErrForm}, {low + "\x81", api.ErrForm},
		{ff + "\x80\x01", api.ErrForm}, {ff + "\x81\x01", api.ErrForm}, {ff + "\x81\x00", api.ErrForm}, {low + "\x80\x00", api.ErrForm}, {low + "\x80\x80", api.ErrForm},
	} {
		for _, ahead := range []string{"", "\x00", "\x01\xff"} {
			for name, call := range map[string]func(r *Reader) int{
				"Num(0)":     func(r *Reader) int { return int(r.Num(0)) },
				"Num(most)":  func(r *Reader) int { return int(r.Num(maxNum)) },
				"Int":        func(r *Reader) int { return int(r.Int()) },
				"Bytes(9)":   func(r *Reader) int { return len(r.Bytes(9)) },
				"Bytes(-1)":  func(r *Reader) int { return len(r.Bytes(-1)) },
				"Bytes(max)": func(r *Reader) int { return len(r.Bytes(math.MaxInt)) },
			} {
				r := NewReader([]byte(ahead + c.form))
				for range len(ahead) {
					r.Byte()
				}
				if call(r) != 0 || r.Err() != c.e || r.At() != len(ahead) {
					t.Errorf("%s of % x: Err %d, want %d, At %d, want %d", name, c.form, r.Err(), c.e, r.At(), len(ahead))
				}
			}
		}
	}
}

func TestTheTenthByte(t *testing.T) { // P7.3
	for b := range 256 {
		for _, nine := range []string{strings.Repeat("\xff", 9), strings.Repeat("\x80", 9)} {
			r := NewReader([]byte(nine + string([]byte{byte(b)}) + "\x01"))
			v := r.Num(maxNum)
			if b == 1 && (r.Err() != api.OK || v < 1<<63 || r.At() != 10) {
				t.Errorf("a tenth byte 1: %d, Err %d", v, r.Err())
			}
			if b != 1 && (r.Err() != api.ErrForm || v != 0 || r.At() != 0) {
				t.Errorf("a tenth byte %d: %d, Err %d", b, v, r.Err())
			}
		}
	}
}

func TestBytesPut(t *testing.T) { // P7.1
	for _, c := range []struct {
		many int
		form string
	}{{0, "\x00"}, {1, "\x01"}, {2, "\x02"}, {127, "\x7f"}, {128, "\x80\x01"}, {16384, "\x80\x80\x01"}, {api.MaxText - 1, "\xff\xff\x03"}, {api.MaxText, "\x80\x80\x04"}} {
		l := bytes.Repeat([]byte{'z'}, c.many)
		got := put(t, func(w *Writer) { w.Bytes(l); w.Byte(9) })
		if got != c.form+string(l)+"\x09" {
			t.Errorf("%d bytes: %d bytes, the first ones % x", c.many, len(got), got[:2])
		}
		r := NewReader([]byte(got))
		if b := r.Bytes(api.MaxText); !bytes.Equal(b, l) {
			t.Errorf("%d bytes come back as %d", c.many, len(b))
		}
		stands(t, r, len(got)-1, api.OK)
	}
}

func TestTooManyBytes(t *testing.T) { // P7.1, P7.2
	for _, many := range []int{api.MaxText + 1, api.MaxText + 2, 3 * api.MaxText} {
		w := NewWriter()
		w.Num(300)
		w.Bytes(make([]byte, many))
		if w.Err() != api.ErrLong {
			t.Errorf("%d bytes: Err %d", many, w.Err())
		}
		w.Num(1)
		w.Int(1)
		w.Byte(1)
		w.Bytes(nil)
		w.Bytes([]byte{1})
		w.Bytes(make([]byte, many))
		if w.Err() != api.ErrLong || string(w.Data()) != "\xac\x02" {
			t.Errorf("behind the error: Err %d, % x", w.Err(), w.Data())
		}
	}
}

func TestBytesTaken(t *testing.T) { // P7.3, P7.4, P4
	long := strings.Repeat("q", api.MaxText)
	for _, c := range []struct {
		from string
		most int
		want string
		at   int
		e    api.Errno
	}{
		{"\x02ab\x00", 2, "ab", 3, api.OK},
		{"\x02ab\x00", 3, "ab", 3, api.OK},
		{"\x02ab\x00", math.MaxInt, "ab", 3, api.OK},
		{"\x02ab\x00", 1, "", 0, api.ErrRange},
		{"\x02ab\x00", 0, "", 0, api.ErrRange},
		{"\x02ab\x00", -1, "", 0, api.ErrRange},
		{"\x02ab\x00", math.MinInt, "", 0, api.ErrRange},
		{"\x00", 0, "", 1, api.OK},
		{"\x00", 7, "", 1, api.OK},
		{"\x00", -1, "", 0, api.ErrRange},
		{"\x02a", 9, "", 0, api.ErrShort},
		{"\x02", 9, "", 0, api.ErrShort},
		{"\x02a", 1, "", 0, api.ErrRange},
		{"\x02a", -1, "", 0, api.ErrRange},
		{"", -1, "", 0, api.ErrShort},
		{"\x80", -1, "", 0, api.ErrShort},
		{"\x80\x00", -1, "", 0, api.ErrForm},
		{"\x80\x00", 9, "", 0, api.ErrForm},
		{"\x80\x80\x04" + long, api.MaxText, long, api.MaxText + 3, api.OK},
		{"\x80\x80\x04" + long, math.MaxInt, long, api.MaxText + 3, api.OK},
		{"\x80\x80\x04" + long, api.MaxText - 1, "", 0, api.ErrRange},
		{"\x80\x80\x04" + long[1:], api.MaxText, "", 0, api.ErrShort},
		{"\x81\x80\x04" + long + "r", math.MaxInt, "", 0, api.ErrRange},
		{"\x81\x80\x04", api.MaxText + 1, "", 0, api.ErrRange},
		{"\xff\xff\xff\xff\xff\xff\xff\xff\xff\x01", math.MaxInt, "", 0, api.ErrRange},
		{"\xff\xff\xff\xff\xff\xff\xff\xff\x7f", math.MaxInt, "", 0, api.ErrRange},
	} {
		r := NewReader([]byte(c.from))
		if got := r.Bytes(c.most); string(got) != c.want {
			t.Errorf("Bytes(%d) of %.9q: %.9q", c.most, c.from, got)
		}
		stands(t, r, c.at, c.e)
	}
}

func TestEnd(t *testing.T) { // P7.3, P7.4
	for _, empty := range [][]byte{nil, {}} {
		r := NewReader(empty)
		r.End()
		r.End()
		stands(t, r, 0, api.OK)
		r.Byte()
		stands(t, r, 0, api.ErrShort)
		r.End()
		stands(t, r, 0, api.ErrShort)
	}
	r := NewReader([]byte{0})
	r.End()
	stands(t, r, 0, api.ErrRest)
	r = NewReader([]byte{7, 8, 9})
	r.Byte()
	r.End()
	if b := r.Byte(); b != 0 {
		t.Errorf("Byte behind ErrRest: %d", b)
	}
	stands(t, r, 1, api.ErrRest)
}

func TestTheFirstErrorOfAReaderStays(t *testing.T) { // P7.3, P7.4
	calls := []func(r *Reader) bool{
		func(r *Reader) bool { return r.Num(maxNum) == 0 },
		func(r *Reader) bool { return r.Num(0) == 0 },
		func(r *Reader) bool { return r.Int() == 0 },
		func(r *Reader) bool { return r.Byte() == 0 },
		func(r *Reader) bool { return len(r.Bytes(9)) == 0 },
		func(r *Reader) bool { return len(r.Bytes(-1)) == 0 },
		func(r *Reader) bool { r.End(); return true },
	}
	for _, c := range []struct {
		from string
		meet func(r *Reader)
		e    api.Errno
	}{
		{"\x03\x02ab", func(r *Reader) { r.Num(1) }, api.ErrRange},
		{"\x03\x02ab", func(r *Reader) { r.Bytes(2) }, api.ErrRange},
		{"\x04\x02ab", func(r *Reader) { r.Bytes(9) }, api.ErrShort},
		{"\x80\x00\x02ab", func(r *Reader) { r.Int() }, api.ErrForm},
		{"\x03\x02ab", func(r *Reader) { r.End() }, api.ErrRest},
		{"", func(r *Reader) { r.Byte() }, api.ErrShort},
	} {
		for i, one := range calls {
			for j, other := range calls {
				r := NewReader([]byte("\x05\x05" + c.from))
				r.Byte()
				r.Num(9)
				c.meet(r)
				stands(t, r, 2, c.e)
				if !one(r) || !other(r) {
					t.Errorf("calls %d, %d take something off behind error %d", i, j, c.e)
				}
				stands(t, r, 2, c.e)
			}
		}
	}
}

func TestThereAndBack(t *testing.T) { // P7.5, P7.6
	data := put(t, func(w *Writer) {
		for _, c := range numbers() {
			w.Num(c.v)
			w.Int(int64(c.v))
			w.Byte(byte(c.v))
			w.Bytes([]byte(c.form))
		}
	})
	taken := func(r *Reader) {
		for _, c := range numbers() {
			v, n, b, l := r.Num(c.v), r.Int(), r.Byte(), r.Bytes(len(c.form))
			if r.Err() == api.OK && (v != c.v || n != int64(c.v) || b != byte(c.v) || string(l) != c.form) {
				t.Errorf("%d comes back as %d, %d, %d, % x", c.v, v, n, b, l)
			}
		}
	}
	r := NewReader([]byte(data))
	taken(r)
	r.End()
	stands(t, r, len(data), api.OK)
	for short := range len(data) {
		r := NewReader([]byte(data)[:short])
		taken(r)
		r.End()
		if r.Err() != api.ErrShort || r.At() > short {
			t.Errorf("the first %d bytes: Err %d, At %d", short, r.Err(), r.At())
		}
	}
}

func TestEveryFormOnce(t *testing.T) { // P7.5: no two numbers have one form, none has two
	var forms []string
	for v := range uint64(40000) {
		forms = append(forms, put(t, func(w *Writer) { w.Num(v) }))
	}
	slices.Sort(forms)
	if len(slices.Compact(forms)) != 40000 {
		t.Error("two numbers have one form")
	}
}
