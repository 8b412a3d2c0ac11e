package wire

import (
	"bytes"
	"math"
	"math/big"
	"testing"

	"sluice/api"
	"sluice/draws"
)

// plainForm is a number's form by the chapter's words, in numbers without bounds.
func plainForm(v *big.Int) []byte {
	group, rest := new(big.Int), new(big.Int).Set(v)
	var l []byte
	for {
		rest.DivMod(rest, big.NewInt(128), group)
		if rest.Sign() == 0 {
			return append(l, byte(group.Int64()))
		}
		l = append(l, byte(group.Int64())+128)
	}
}

// plainNumber looks at bytes one by one, by the words of P7.3.
func plainNumber(b []byte) (*big.Int, int, api.Errno) {
	sum, weight := new(big.Int), big.NewInt(1)
	for nth := 1; ; nth++ {
		if len(b) < nth {
			return nil, 0, api.ErrShort
		}
		x := b[nth-1]
		if nth >= 2 && x == 0 || nth == 10 && x != 0 && x != 1 {
			return nil, 0, api.ErrForm
		}
		part := big.NewInt(int64(x & 127))
		sum.Add(sum, part.Mul(part, weight))
		weight.Mul(weight, big.NewInt(128))
		if x < 128 {
			return sum, nth, api.OK
		}
	}
}

// plainReader is a reader by the words of P7.3 and P7.4.
type plainReader struct {
	rest []byte
	at   int
	e    api.Errno
}

func (p *plainReader) off(n int) []byte {
	l := p.rest[:n]
	p.rest, p.at = p.rest[n:], p.at+n
	return l
}

func (p *plainReader) num(most *big.Int) *big.Int {
	if p.e != api.OK {
		return new(big.Int)
	}
	v, n, e := plainNumber(p.rest)
	if e == api.OK && v.Cmp(most) > 0 {
		e = api.ErrRange
	}
	if p.e = e; e != api.OK {
		return new(big.Int)
	}
	p.off(n)
	return v
}

func (p *plainReader) int() int64 {
	v := p.num(new(big.Int).SetUint64(maxNum))
	half := new(big.Int)
	if half.DivMod(v, big.NewInt(2), v); v.Sign() == 0 {
		return half.Int64()
	}
	return half.Neg(half.Add(half, big.NewInt(1))).Int64()
}

func (p *plainReader) byte() byte {
	if p.e == api.OK && len(p.rest) == 0 {
		p.e = api.ErrShort
	}
	if p.e != api.OK {
		return 0
	}
	return p.off(1)[0]
}

func (p *plainReader) bytes(most int) []byte {
	was := *p
	v := p.num(new(big.Int).SetUint64(maxNum))
	if p.e == api.OK && (most < 0 || v.Cmp(big.NewInt(int64(most))) > 0 || v.Cmp(big.NewInt(api.MaxText)) > 0) {
		p.e = api.ErrRange
	}
	if p.e == api.OK && int(v.Int64()) > len(p.rest) {
		p.e = api.ErrShort
	}
	if p.e != api.OK {
		p.rest, p.at = was.rest, was.at
		return nil
	}
	return p.off(int(v.Int64()))
}

func (p *plainReader) end() {
	if p.e == api.OK && len(p.rest) > 0 {
		p.e = api.ErrRest
	}
}

// readBoth asks a reader and a plain one the same, and tells whether they answer the same.
func readBoth(r *Reader, p *plainReader, call int, most uint64) bool {
	same := true
	switch call {
	case 0:
		same = new(big.Int).SetUint64(r.Num(most)).Cmp(p.num(new(big.Int).SetUint64(most))) == 0
	case 1:
		same = r.Int() == p.int()
	case 2:
		same = r.Byte() == p.byte()
	case 3:
		same = bytes.Equal(r.Bytes(int(most)), p.bytes(int(most)))
	case 4:
		r.End()
		p.end()
	}
	return same && r.At() == p.at && r.Err() == p.e
}

// anyNumber draws one, of any length of its form.
func anyNumber(next func(int) int) uint64 {
	v := uint64(next(1<<31))<<33 ^ uint64(next(1<<31))<<20 ^ uint64(next(1<<31))
	v >>= next(64)
	if next(4) == 0 {
		v = uint64(1)<<next(64) - uint64(next(2))
	}
	return v
}

func TestFormsAsTheWordsHaveThem(t *testing.T) { // P7.1, P7.5
	next := draws.Numbers(71)
	for range 20000 {
		v := anyNumber(next)
		if got, want := put(t, func(w *Writer) { w.Num(v) }), plainForm(new(big.Int).SetUint64(v)); got != string(want) {
			t.Fatalf("Num(%d): % x, want % x", v, got, want)
		}
		n := int64(v)
		twice := new(big.Int).Mul(big.NewInt(2), big.NewInt(n))
		if n < 0 {
			twice.Neg(twice).Sub(twice, big.NewInt(1))
		}
		if got, want := put(t, func(w *Writer) { w.Int(n) }), plainForm(twice); got != string(want) {
			t.Fatalf("Int(%d): % x, want % x", n, got, want)
		}
	}
}

func TestReadersOfShortBytesAsTheWordsHaveThem(t *testing.T) { // P7.3, P7.4, P4
	some := []byte{0, 1, 2, 127, 128, 129, 255}
	mosts := []uint64{0, 1, 2, 127, 128, 1 << 14, maxNum, 1 << 63}
	var try func(b []byte)
	try = func(b []byte) {
		for one := range 5 {
			for two := range 5 {
				for _, most := range mosts {
					r, p := NewReader(b), &plainReader{rest: b}
					if !readBoth(r, p, one, most) || !readBoth(r, p, two, most) {
						t.Fatalf("% x, calls %d, %d, most %d: At %d, want %d, Err %d, want %d", b, one, two, most, r.At(), p.at, r.Err(), p.e)
					}
				}
			}
		}
		if len(b) < 4 {
			for _, x := range some {
				try(append(bytes.Clone(b), x))
			}
		}
	}
	try(nil)
}

func TestReadersOfLongFormsAsTheWordsHaveThem(t *testing.T) { // P7.3, P7.4, P4
	next := draws.Numbers(73)
	for range 20000 {
		long := 7 + next(6)
		var b []byte
		for i := range long {
			x := byte(128 + next(128))
			if i >= 7 {
				x = []byte{0, 1, 2, 127, 128, 129, 255, 128}[next(8)]
			}
			b = append(b, x)
		}
		r, p := NewReader(b), &plainReader{rest: b}
		for range 3 {
			most := []uint64{maxNum, maxNum, anyNumber(next)}[next(3)]
			if call := next(5); !readBoth(r, p, call, most) {
				t.Fatalf("% x, call %d, most %d: At %d, want %d, Err %d, want %d", b, call, most, r.At(), p.at, r.Err(), p.e)
			}
		}
	}
}

// step is a call of a writer, and the same of a reader.
type step struct {
	put  func(w *Writer)
	same func(r *Reader) bool
}

// anyStep draws a call with what it puts.
func anyStep(next func(int) int) step {
	v := anyNumber(next)
	l := bytes.Repeat([]byte{byte(v), byte(v >> 8)}, next(100))
	atMost := v + uint64(next(2))*(maxNum-v)
	switch next(4) {
	case 0:
		return step{func(w *Writer) { w.Num(v) }, func(r *Reader) bool { return r.Num(atMost) == v }}
	case 1:
		return step{func(w *Writer) { w.Int(int64(v)) }, func(r *Reader) bool { return r.Int() == int64(v) }}
	case 2:
		return step{func(w *Writer) { w.Byte(byte(v)) }, func(r *Reader) bool { return r.Byte() == byte(v) }}
	}
	most := []int{len(l), len(l) + 1, api.MaxText, math.MaxInt}[next(4)]
	return step{func(w *Writer) { w.Bytes(l) }, func(r *Reader) bool { return bytes.Equal(r.Bytes(most), l) }}
}

func TestThereAndBackOfAnyCalls(t *testing.T) { // P7.5, P7.6
	next := draws.Numbers(75)
	for range 600 {
		w := NewWriter()
		var steps []step
		for range 1 + next(9) {
			steps = append(steps, anyStep(next))
			steps[len(steps)-1].put(w)
		}
		data := w.Data()
		r := NewReader(data)
		for _, s := range steps {
			if !s.same(r) || r.Err() != api.OK {
				t.Fatalf("% x: something else comes back, Err %d", data, r.Err())
			}
		}
		r.End()
		stands(t, r, len(data), api.OK)
		for short := range data {
			r := NewReader(data[:short])
			for _, s := range steps {
				s.same(r)
			}
			if r.Err() != api.ErrShort {
				t.Fatalf("the first %d of % x: Err %d", short, data, r.Err())
			}
		}
	}
}

func TestWhatWasTakenOffPutAnew(t *testing.T) { // P7.5
	next := draws.Numbers(77)
	taken := 0
	for range 30000 {
		var b []byte
		for range 1 + next(12) {
			b = append(b, []byte{0, 1, 2, 127, 128, 129, 255, byte(next(256))}[next(8)])
		}
		r, w := NewReader(b), NewWriter()
		for r.Err() == api.OK {
			at := r.At()
			var again func()
			switch next(4) {
			case 0:
				v := r.Num(maxNum)
				again = func() { w.Num(v) }
			case 1:
				n := r.Int()
				again = func() { w.Int(n) }
			case 2:
				x := r.Byte()
				again = func() { w.Byte(x) }
			case 3:
				l := r.Bytes(math.MaxInt)
				again = func() { w.Bytes(l) }
			}
			if r.Err() != api.OK {
				break
			}
			taken++
			if again(); !bytes.Equal(w.Data(), b[:r.At()]) || r.At() <= at {
				t.Fatalf("of % x were taken off %d bytes, put anew they are % x", b, r.At(), w.Data())
			}
		}
	}
	if taken < 30000 {
		t.Errorf("only %d were taken off", taken)
	}
}
