package code

import "sluice/api"

// A filter's instructions, numbered as the chapter's table has them.
const (
	keyIs = 21 + iota
	keyIsNot
	keyBelow
	valIs
	valIsNot
	valBelow
	bothBelow
	keyIsVal
)

// mayFilter: is it one of a filter's?
func mayFilter(o api.Op) bool {
	if o.Kind == keyIsVal {
		return o.Arg == 0
	}
	return o.Kind >= keyIs && o.Kind < keyIsVal
}

// holds: does one of a filter's instructions hold of a record?
func holds(o api.Op, r api.Record) bool {
	switch o.Kind {
	case keyIs:
		return r.Key == o.Arg
	case keyIsNot:
		return r.Key != o.Arg
	case keyBelow:
		return r.Key < o.Arg
	case valIs:
		return r.Val == o.Arg
	case valIsNot:
		return r.Val != o.Arg
	case bothBelow:
		if r.Key >= o.Arg {
			return false
		}
		fallthrough
	case valBelow:
		return r.Val < o.Arg
	case keyIsVal:
		return r.Key == r.Val
	}
	return false
}
