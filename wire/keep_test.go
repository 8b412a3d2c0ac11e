package wire

import (
	"bytes"
	"testing"

	"sluice/api"
)

func TestDataIsNewMemory(t *testing.T) { // P7.2, P2
	w := NewWriter()
	if len(w.Data()) != 0 {
		t.Errorf("an empty writer has % x", w.Data())
	}
	want := ""
	for i := range 40 {
		one, two := w.Data(), w.Data()
		if string(one) != want || string(two) != want {
			t.Fatalf("Data: % x, then % x, want % x", one, two, want)
		}
		grown := append(one, 'x', 'y')
		w.Byte(byte(i))
		want += string([]byte{byte(i)})
		if string(grown[len(one):]) != "xy" {
			t.Error("what is put is seen in what was handed out")
		}
		for k := range one {
			one[k] = 'z'
		}
		if string(two) != want[:i] {
			t.Error("two answers share memory")
		}
	}
	if string(w.Data()) != want {
		t.Errorf("% x", w.Data())
	}
}

func TestDataBehindAnError(t *testing.T) { // P7.2, P2
	w := NewWriter()
	w.Byte(7)
	w.Bytes(make([]byte, api.MaxText+1))
	w.Data()[0] = 8
	if got := w.Data(); len(got) != 1 || got[0] != 7 {
		t.Errorf("% x", got)
	}
}

func TestBytesPutAreNotKept(t *testing.T) { // P2
	room := []byte("abcdef")
	w := NewWriter()
	w.Bytes(room[:3])
	w.Byte('!')
	if string(room) != "abcdef" {
		t.Errorf("what was handed in is changed: %q", room)
	}
	copy(room, "XXXXXX")
	if got := w.Data(); string(got) != "\x03abc!" {
		t.Errorf("what was handed in is kept: %q", got)
	}
}

func TestAReadersBytesAreItsOwn(t *testing.T) { // P7.3, P2
	room := []byte("\x02ab\x07ZZ")
	r := NewReader(room[:4])
	copy(room, "\xff\xff\xff\xff")
	if got := r.Bytes(9); string(got) != "ab" {
		t.Errorf("%q", got)
	}
	copy(room, "\xfe\xfe\xfe\xfe")
	if got := r.Byte(); got != 7 {
		t.Errorf("%d", got)
	}
	r.End()
	stands(t, r, 4, api.OK)
	if string(room) != "\xfe\xfe\xfe\xfeZZ" {
		t.Errorf("what was handed in is changed: %q", room)
	}
}

func TestBytesTakenAreNewMemory(t *testing.T) { // P7.3, P2
	data := []byte("\x02ab\x02cd\x07")
	r := NewReader(data)
	one := r.Bytes(2)
	one[0] = 'X'
	one = append(one, 0xff, 0xff, 0xff, 0xff)
	two := r.Bytes(2)
	two = append(two, 0xee)
	if string(two[:2]) != "cd" || string(one[:2]) != "Xb" || r.Byte() != 7 {
		t.Errorf("%q, %q share memory with the reader", one, two)
	}
	if string(data) != "\x02ab\x02cd\x07" {
		t.Errorf("what was handed in is changed: %q", data)
	}
}

func TestTwoHaveNothingToDoWithEachOther(t *testing.T) { // P5
	v, w := NewWriter(), NewWriter()
	v.Bytes(make([]byte, api.MaxText+1))
	w.Byte(1)
	if v.Err() != api.ErrLong || w.Err() != api.OK || len(v.Data()) != 0 || !bytes.Equal(w.Data(), []byte{1}) {
		t.Error("two writers")
	}
	data := []byte{1, 2}
	r, s := NewReader(data), NewReader(data)
	r.Byte()
	r.End()
	stands(t, s, 0, api.OK)
	if s.Byte() != 1 || s.Byte() != 2 {
		t.Error("two readers")
	}
	stands(t, r, 1, api.ErrRest)
	stands(t, s, 2, api.OK)
}

func TestNilWriter(t *testing.T) { // P1
	var w *Writer
	w.Num(1)
	w.Int(-1)
	w.Byte(1)
	w.Bytes([]byte{1})
	w.Bytes(make([]byte, api.MaxText+1))
	if w.Err() != api.OK || len(w.Data()) != 0 {
		t.Errorf("Err: %d, Data: % x", w.Err(), w.Data())
	}
}

func TestNilReader(t *testing.T) { // P1
	var r *Reader
	r.End()
	if r.Num(9) != 0 || r.Int() != 0 || r.Byte() != 0 || len(r.Bytes(9)) != 0 || len(r.Bytes(-1)) != 0 {
		t.Error("a nil reader takes something off")
	}
	stands(t, r, 0, api.OK)
}
