package script

import (
	"iter"
	"slices"
	"strconv"
	"strings"

	"sluice/api"
	"sluice/stamp"
	"sluice/world"
)

const (
	blank     = ' '
	newline   = '\n'
	mostWhole = 2147483647
)

// names is the first word of each kind's line; of 0 there is none.
var names = [world.Pass + 1]string{
	world.Send:    "send",
	world.Advance: "advance",
	world.Close:   "close",
	world.Take:    "take",
	world.Clone:   "clone",
	world.Lower:   "lower",
	world.Drop:    "drop",
	world.Emit:    "emit",
	world.Run:     "run",
	world.Step:    "step",
	world.Hear:    "hear",
	world.Pass:    "pass",
}

// teller is either way between a line and its act: it meets what the line tells, from its last word to the one behind its name.
type teller interface {
	whole(n *int)
	number(n *uint64)
	time(t *api.Time)
}

// goOver hands on what the line of an act of this kind tells. What a longer line has beyond a shorter one stands behind, so from the last word on it comes first, and then the longer one goes on as the shorter one.
func goOver(a *world.Act, t teller) {
	switch a.Kind {
	case world.Send, world.Emit:
		t.number(&a.R.Val)
		t.number(&a.R.Key)
		fallthrough
	case world.Advance, world.Lower:
		t.time(&a.T)
		fallthrough
	case world.Close, world.Take, world.Clone, world.Drop, world.Run:
		t.whole(&a.N)
		fallthrough
	case world.Step:
		t.whole(&a.W)
	case world.Hear, world.Pass:
		t.whole(&a.From)
		t.whole(&a.W)
	}
}

// lines gives the words of each line of a text. An end without a newline is no line: it comes as no words.
func lines(text string) iter.Seq[[]string] {
	return func(yield func(words []string) bool) {
		var words []string
		begin := 0
		for at, r := range text {
			if r != blank && r != newline {
				continue
			}
			words = append(words, text[begin:at])
			begin = at + 1
			if r == newline {
				if !yield(words) {
					return
				}
				words = nil
			}
		}
		if begin < len(text) || len(words) > 0 {
			yield(nil)
		}
	}
}

// read is the act that a line's words tell; false: there is no such line.
func read(words []string, arity int) (world.Act, bool) {
	if len(words) == 0 {
		return world.Act{}, false
	}
	a := world.Act{Kind: kindOf(words[0])}
	r := reader{words: words[1:], arity: arity, ok: a.Kind != 0}
	goOver(&a, &r)
	if !r.ok || len(r.words) > 0 {
		return world.Act{}, false
	}
	return a, true
}

// kindOf is the kind whose line has this name; 0: none has.
func kindOf(name string) int {
	for kind := world.Send; kind <= world.Pass; kind++ {
		if names[kind] == name {
			return kind
		}
	}
	return 0
}

// reader reads words, the last one first.
type reader struct {
	words []string
	arity int
	ok    bool // nothing was wrong so far
}

func (r *reader) time(t *api.Time) { *t = r.last(r.arity) }

// number is read as a time of one number, which has the same form.
func (r *reader) number(n *uint64) { *n = r.last(1).A }

func (r *reader) whole(n *int) {
	v := r.last(1).A
	if v > mostWhole {
		r.ok = false
		return
	}
	*n = int(v)
}

// last takes off the last word, which must be a time of this arity.
func (r *reader) last(arity int) api.Time {
	if len(r.words) == 0 {
		r.ok = false
		return api.Time{}
	}
	behind := len(r.words) - 1
	t, e := stamp.Parse(r.words[behind], arity)
	r.words = r.words[:behind]
	r.ok = r.ok && e == api.OK
	return t
}

// told is the line that tells an act; ErrArg, ErrArity: none does.
func told(a world.Act, arity int) (string, api.Errno) {
	if a.Kind < world.Send || a.Kind > world.Pass {
		return "", api.ErrArg
	}
	w := writer{arity: arity}
	goOver(&a, &w)
	if w.e != api.OK {
		return "", w.e
	}
	words := append(w.words, names[a.Kind])
	slices.Reverse(words)
	return lineOf(words...), api.OK
}

// writer writes words, the last one first.
type writer struct {
	words []string
	arity int
	e     api.Errno
}

func (w *writer) number(n *uint64) { w.words = append(w.words, digits(*n)) }

func (w *writer) time(t *api.Time) {
	text, e := stamp.Text(*t, w.arity)
	w.words, w.e = append(w.words, text), e
}

// whole is met behind the time, but its error is the one to be told: so it writes over the time's.
func (w *writer) whole(n *int) {
	if *n < 0 || *n > mostWhole {
		w.e = api.ErrArg
	}
	w.words = append(w.words, strconv.Itoa(*n))
}

func lineOf(words ...string) string { return strings.Join(words, string(blank)) + string(newline) }

func digits(n uint64) string { return strconv.FormatUint(n, 10) }
