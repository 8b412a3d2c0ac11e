package stamp

import (
	"strconv"
	"strings"

	"sluice/api"
)

const between = "."

// Text is a time's text.
func Text(t api.Time, arity int) (string, api.Errno) {
	if e := Fits(t, arity); e != api.OK {
		return "", e
	}
	numbers := numbersOf(t)
	var digits []string
	for _, n := range numbers[:arity] {
		digits = append(digits, strconv.FormatUint(n, 10))
	}
	return strings.Join(digits, between), api.OK
}

// Parse is the time with this text.
func Parse(s string, arity int) (api.Time, api.Errno) {
	// The least time fits every arity that there is.
	if e := Fits(api.Time{}, arity); e != api.OK {
		return api.Time{}, e
	}
	// One part more than may be is enough to refuse a text, however many there are.
	parts := strings.SplitN(s, between, arity+1)
	if len(parts) != arity {
		return api.Time{}, api.ErrText
	}
	var numbers [api.MaxArity]uint64
	for i, part := range parts {
		n, ok := number(part)
		if !ok {
			return api.Time{}, api.ErrText
		}
		numbers[i] = n
	}
	return timeOf(numbers), api.OK
}

// number reads digits: only what is told just so again is one, so no sign and no zero in front.
func number(digits string) (uint64, bool) {
	n, err := strconv.ParseUint(digits, 10, 64)
	if err != nil || strconv.FormatUint(n, 10) != digits {
		return 0, false
	}
	return n, true
}
