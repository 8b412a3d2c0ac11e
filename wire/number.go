package wire

import "sluice/api"

const (
	groupBits = 7
	more      = 1 << groupBits // in each byte of a form but the last
	lastPlace = 9              // the tenth byte, of which one bit alone is left of the 64
)

// appendForm puts the form of a number behind some bytes.
func appendForm(b []byte, v uint64) []byte {
	for v >= more {
		b = append(b, byte(v%more)|more)
		v >>= groupBits
	}
	return append(b, byte(v))
}

// number is the one whose form stands at the front of some bytes, and how many bytes the form has.
func number(b []byte, most uint64) (v uint64, size int, e api.Errno) {
	for i, x := range b {
		if !mayStand(x, i) {
			return 0, 0, api.ErrForm
		}
		v |= uint64(x%more) << (groupBits * i)
		if x >= more {
			continue
		}
		if v > most {
			return 0, 0, api.ErrRange
		}
		return v, i + 1, api.OK
	}
	return 0, 0, api.ErrShort
}

// mayStand tells whether a byte may be the i-th one of a form, from 0 on. Since the tenth one is always a last one, there is no eleventh.
func mayStand(x byte, i int) bool {
	if i == lastPlace {
		return x == 1
	}
	return i == 0 || x != 0
}

// counted is as many bytes as the number tells that stands ahead of them, and how many bytes that is with the number's form.
func counted(b []byte, most int) (l []byte, size int, e api.Errno) {
	v, size, e := number(b, uint64(min(max(most, 0), api.MaxText)))
	if e == api.OK && most < 0 {
		// No number is at most such a one, not even 0.
		e = api.ErrRange
	}
	if e == api.OK && v > uint64(len(b)-size) {
		e = api.ErrShort
	}
	if e != api.OK {
		return nil, 0, e
	}
	end := size + int(v)
	return b[size:end], end, api.OK
}

// folded is the number whose form is that of a whole number: 2 n, or -2 n - 1 below 0.
func folded(n int64) uint64 {
	if n < 0 {
		return ^(uint64(n) << 1)
	}
	return uint64(n) << 1
}

// unfolded is the whole number with the form of a number.
func unfolded(v uint64) int64 {
	if v%2 == 1 {
		return ^int64(v >> 1)
	}
	return int64(v >> 1)
}
