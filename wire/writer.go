package wire

import (
	"bytes"

	"sluice/api"
)

// Writer puts things behind one another.
type Writer struct {
	fault
	data []byte
}

// NewWriter is an empty one.
func NewWriter() *Writer { return &Writer{} }

// Num puts a number.
func (w *Writer) Num(v uint64) {
	if w == nil || w.failed() {
		return
	}
	w.data = appendForm(w.data, v)
}

// Int puts a whole number.
func (w *Writer) Int(n int64) { w.Num(folded(n)) }

// Byte puts a byte.
func (w *Writer) Byte(b byte) {
	if w == nil || w.failed() {
		return
	}
	w.data = append(w.data, b)
}

// Bytes puts a number of bytes, and these; ErrLong: they are more than MaxText.
func (w *Writer) Bytes(b []byte) {
	if w == nil || w.failed() {
		return
	}
	if len(b) > api.MaxText {
		w.note(api.ErrLong)
		return
	}
	w.data = append(appendForm(w.data, uint64(len(b))), b...)
}

// Data is all that was put ahead of the first error.
func (w *Writer) Data() []byte {
	if w == nil {
		return nil
	}
	return bytes.Clone(w.data)
}

// Err is the first error.
func (w *Writer) Err() api.Errno {
	if w == nil {
		return api.OK
	}
	return w.first
}
