package code

import "sluice/api"

// A map's instructions, numbered as the chapter's table has them.
const (
	keyBecomes = 1 + iota
	keyPlus
	keyRest
	valBecomes
	valPlus
	valTimes
	swap
	valPlusKey
	bothPlus
	bothBecome
)

// mayMap: is it one of a map's?
func mayMap(o api.Op) bool {
	switch o.Kind {
	case keyRest:
		return o.Arg != 0
	case swap, valPlusKey:
		return o.Arg == 0
	}
	return o.Kind >= keyBecomes && o.Kind <= bothBecome
}

// mapped is what one of a map's instructions makes of a record.
func mapped(o api.Op, r api.Record) api.Record {
	switch o.Kind {
	case keyBecomes:
		r.Key = o.Arg
	case keyPlus:
		r.Key += o.Arg
	case keyRest:
		r.Key %= o.Arg
	case valTimes:
		r.Val *= o.Arg
	case swap:
		r.Key, r.Val = r.Val, r.Key
	case valPlusKey:
		r.Val += r.Key
	case bothPlus:
		r.Key += o.Arg
		fallthrough
	case valPlus:
		r.Val += o.Arg
	case bothBecome:
		r.Key = o.Arg
		fallthrough
	case valBecomes:
		r.Val = o.Arg
	}
	return r
}
