package batch

import (
	"math/big"

	"sluice/api"
)

// plainForm is a number's form by the words of chapter 7: its bits in groups of seven, the lowest first.
func plainForm(v uint64) []byte {
	var b []byte
	for ; v >= 128; v /= 128 {
		b = append(b, byte(v%128)+128)
	}
	return append(b, byte(v))
}

// plainWhole is that of a whole number: 2 n from 0 on, -2 n - 1 below.
func plainWhole(n int64) []byte {
	twice := new(big.Int).Mul(big.NewInt(2), big.NewInt(n))
	if n < 0 {
		twice.Neg(twice).Sub(twice, big.NewInt(1))
	}
	return plainForm(twice.Uint64())
}

// plainChange is a change's part of the bytes, whether it may be or not; its place isn't below 0.
func plainChange(c api.Change) []byte {
	b := plainForm(uint64(c.S.At))
	for _, v := range []uint64{c.S.T.A, c.S.T.B, c.S.T.C} {
		b = append(b, plainForm(v)...)
	}
	return append(b, plainWhole(c.N)...)
}

// plainBehind: by the place's number, then by A, then B, then C.
func plainBehind(c, before api.Change) bool {
	s, t := c.S, before.S
	switch {
	case s.At != t.At:
		return s.At > t.At
	case s.T.A != t.T.A:
		return s.T.A > t.T.A
	case s.T.B != t.T.B:
		return s.T.B > t.T.B
	}
	return s.T.C > t.T.C
}

func beyond(n int64) bool { return n < -2147483647 || n > 2147483647 }

// plainPut is Put by the words of P15.1.
func plainPut(l []api.Change) ([]byte, api.Errno) {
	var b []byte
	for i, c := range l {
		switch {
		case c.S.At < 0, c.S.At > 191, beyond(c.N):
			return nil, api.ErrRange
		case c.N == 0, i > 0 && !plainBehind(c, l[i-1]):
			return nil, api.ErrForm
		}
		b = append(b, plainChange(c)...)
	}
	if len(l) == 0 {
		return nil, api.OK
	}
	return append(plainForm(uint64(len(l))), b...), api.OK
}

// plainGetter goes through bytes by the words of P15.2; behind a fault it does no more.
type plainGetter struct {
	b     []byte
	at    int
	fault Fault
}

func (p *plainGetter) wrong(at int, e api.Errno) {
	if p.fault.Err == api.OK {
		p.fault = Fault{at, e}
	}
}

// number takes one by the words of P7.3: its bytes are looked at one by one.
func (p *plainGetter) number() uint64 {
	sum, weight := new(big.Int), big.NewInt(1)
	for nth := 0; p.fault.Err == api.OK; nth++ {
		if p.at+nth == len(p.b) {
			p.wrong(p.at, api.ErrShort)
			break
		}
		x := p.b[p.at+nth]
		if nth >= 1 && x == 0 || nth == 9 && x != 1 {
			p.wrong(p.at, api.ErrForm)
			break
		}
		sum.Add(sum, new(big.Int).Mul(weight, big.NewInt(int64(x%128))))
		weight.Mul(weight, big.NewInt(128))
		if x < 128 {
			p.at += nth + 1
			return sum.Uint64()
		}
	}
	return 0
}

func (p *plainGetter) place() int {
	at := p.at
	v := p.number()
	if v > 191 {
		p.wrong(at, api.ErrRange)
		return 0
	}
	return int(v)
}

func (p *plainGetter) whole() int64 {
	at := p.at
	v := p.number()
	n := int64(v / 2)
	if v%2 == 1 {
		n = -n - 1
	}
	if beyond(n) {
		p.wrong(at, api.ErrRange)
	} else if n == 0 {
		p.wrong(at, api.ErrForm)
	}
	return n
}

// plainGet is Get by the words of P15.2; a fault without an error is none.
func plainGet(b []byte) ([]api.Change, Fault) {
	if len(b) == 0 {
		return nil, Fault{}
	}
	p := &plainGetter{b: b}
	many := p.number()
	if many == 0 {
		p.wrong(0, api.ErrForm)
	}
	var l []api.Change
	for i := uint64(0); i < many && p.fault.Err == api.OK; i++ {
		at := p.at
		c := api.Change{}
		c.S.At = p.place()
		c.S.T.A = p.number()
		c.S.T.B = p.number()
		c.S.T.C = p.number()
		c.N = p.whole()
		if i > 0 && !plainBehind(c, l[i-1]) {
			p.wrong(at, api.ErrForm)
		}
		l = append(l, c)
	}
	if p.at < len(b) {
		p.wrong(p.at, api.ErrRest)
	}
	if p.fault.Err != api.OK {
		return nil, p.fault
	}
	return l, Fault{}
}
