package wire

import (
	"bytes"
	"math"

	"sluice/api"
)

// Reader takes things off the front.
type Reader struct {
	fault
	data []byte
	at   int
}

// NewReader reads these bytes.
func NewReader(b []byte) *Reader { return &Reader{data: bytes.Clone(b)} }

// Num takes a number, at most most; ErrShort, ErrForm: no form stands there; ErrRange: the number is above most.
func (r *Reader) Num(most uint64) uint64 {
	if r == nil || r.failed() {
		return 0
	}
	v, size, e := number(r.rest(), most)
	r.take(size, e)
	return v
}

// Int takes a whole number; ErrShort, ErrForm: no form stands there.
func (r *Reader) Int() int64 { return unfolded(r.Num(math.MaxUint64)) }

// Byte takes a byte; ErrShort: none is left.
func (r *Reader) Byte() byte {
	if r == nil || r.failed() {
		return 0
	}
	rest := r.rest()
	if len(rest) == 0 {
		r.note(api.ErrShort)
		return 0
	}
	r.at++
	return rest[0]
}

// Bytes takes a number of bytes, at most most, and these; ErrShort, ErrForm: no form of a number stands there; ErrRange: the number is above most or above MaxText, or most is below 0; ErrShort: fewer bytes are left.
func (r *Reader) Bytes(most int) []byte {
	if r == nil || r.failed() {
		return nil
	}
	b, size, e := counted(r.rest(), most)
	r.take(size, e)
	return bytes.Clone(b)
}

// End looks that nothing is left; ErrRest: a byte is.
func (r *Reader) End() {
	if r != nil && len(r.rest()) > 0 {
		r.note(api.ErrRest)
	}
}

// At is how many bytes were taken off. A call that meets an error takes none, so behind one it is the place at which that call began.
func (r *Reader) At() int {
	if r == nil {
		return 0
	}
	return r.at
}

// Err is the first error.
func (r *Reader) Err() api.Errno {
	if r == nil {
		return api.OK
	}
	return r.first
}

// rest is what was not taken off yet.
func (r *Reader) rest() []byte { return r.data[r.at:] }

// take takes as many bytes off as something has, or notes the error that was met in it.
func (r *Reader) take(size int, e api.Errno) {
	if e != api.OK {
		r.note(e)
		return
	}
	r.at += size
}
