package script

import (
	"fmt"
	"math/big"
	"regexp"
	"strings"

	"sluice/api"
	"sluice/draft"
	"sluice/world"
)

// These are the chapter's words once more, worked out apart: its table is read as it stands there.

// form is a line of the table; W, N and F are wholes, T is a time, K and V are numbers.
func form(kind int) string {
	return map[int]string{
		world.Send:    "send W N T K V",
		world.Emit:    "emit W N T K V",
		world.Advance: "advance W N T",
		world.Lower:   "lower W N T",
		world.Close:   "close W N",
		world.Take:    "take W N",
		world.Clone:   "clone W N",
		world.Drop:    "drop W N",
		world.Run:     "run W N",
		world.Hear:    "hear W F",
		world.Pass:    "pass W F",
		world.Step:    "step W",
	}[kind]
}

// letters are what a line tells, and name is its first word.
func letters(kind int) []string { return strings.Fields(form(kind))[1:] }

func name(kind int) string { return strings.Fields(form(kind))[0] }

func tells(kind int, letter string) bool {
	return kind >= world.Send && kind <= world.Pass && strings.Contains(form(kind), " "+letter)
}

func isWhole(letter string) bool { return letter == "W" || letter == "N" || letter == "F" }

// known keeps what was compiled, by the kind and the arity.
type known map[[2]int]*regexp.Regexp

const plainNumber = `(?:0|[1-9][0-9]*)`

func (k known) of(kind, arity int) *regexp.Regexp {
	if r := k[[2]int{kind, arity}]; r != nil {
		return r
	}
	s := "^" + name(kind)
	for _, letter := range letters(kind) {
		one := plainNumber
		if letter == "T" {
			one += strings.Repeat(`\.`+plainNumber, arity-1)
		}
		s += " (" + one + ")"
	}
	r := regexp.MustCompile(s + "\n$")
	k[[2]int{kind, arity}] = r
	return r
}

// line is the act of a line, its newline with it.
func (k known) line(s string, arity int) (world.Act, bool) {
	for kind := world.Send; kind <= world.Pass; kind++ {
		if words := k.of(kind, arity).FindStringSubmatch(s); words != nil {
			return plainAct(kind, words[1:])
		}
	}
	return world.Act{}, false
}

// plainAct is the act of a line's words, which have the form; false: one of them is too great.
func plainAct(kind int, words []string) (world.Act, bool) {
	a := world.Act{Kind: kind}
	for i, letter := range letters(kind) {
		var numbers [3]uint64
		for j, part := range strings.Split(words[i], ".") {
			n, _ := new(big.Int).SetString(part, 10)
			if !n.IsUint64() || isWhole(letter) && n.BitLen() > 31 {
				return world.Act{}, false
			}
			numbers[j] = n.Uint64()
		}
		switch letter {
		case "W":
			a.W = int(numbers[0])
		case "N":
			a.N = int(numbers[0])
		case "F":
			a.From = int(numbers[0])
		case "T":
			a.T = at(numbers[:]...)
		case "K":
			a.R.Key = numbers[0]
		case "V":
			a.R.Val = numbers[0]
		}
	}
	return a, true
}

func (k known) parse(text string, arity int) ([]world.Act, int, api.Errno) {
	if arity < 1 || arity > 3 {
		return nil, 0, api.ErrArity
	}
	if len(text) > 65536 {
		return nil, 0, api.ErrLong
	}
	var l []world.Act
	for i, s := range strings.SplitAfter(text, "\n") {
		if s == "" { // behind the last newline
			break
		}
		if i == 2048 {
			return nil, i + 1, api.ErrLong
		}
		a, ok := k.line(s, arity)
		if !ok {
			return nil, i + 1, api.ErrLine
		}
		l = append(l, a)
	}
	return l, 0, api.OK
}

func fits(t api.Time, arity int) bool {
	return (arity > 1 || t.B == 0) && (arity > 2 || t.C == 0)
}

func plainTime(t api.Time, arity int) string {
	return strings.Join(strings.Split(fmt.Sprint(t.A, ".", t.B, ".", t.C), ".")[:arity], ".")
}

func plainLine(a world.Act, arity int) (string, api.Errno) {
	if a.Kind < 1 || a.Kind > 12 {
		return "", api.ErrArg
	}
	s := name(a.Kind)
	for _, letter := range letters(a.Kind) {
		whole := map[string]int{"W": a.W, "N": a.N, "F": a.From}
		if n, is := whole[letter]; is && (n < 0 || n > 2147483647) {
			return "", api.ErrArg
		}
		s += " " + map[string]string{"W": fmt.Sprint(a.W), "N": fmt.Sprint(a.N), "F": fmt.Sprint(a.From), "T": plainTime(a.T, arity), "K": fmt.Sprint(a.R.Key), "V": fmt.Sprint(a.R.Val)}[letter]
	}
	if tells(a.Kind, "T") && !fits(a.T, arity) {
		return "", api.ErrArity
	}
	return s + "\n", api.OK
}

func plainText(l []world.Act, arity int) (string, api.Errno) {
	if arity < 1 || arity > 3 {
		return "", api.ErrArity
	}
	if len(l) > 2048 {
		return "", api.ErrLong
	}
	text := ""
	for _, a := range l {
		s, e := plainLine(a, arity)
		if e != api.OK {
			return "", e
		}
		text += s
	}
	if len(text) > 65536 {
		return "", api.ErrLong
	}
	return text, api.OK
}

// bare is an act with 0 in what its line doesn't tell.
func bare(a world.Act) world.Act {
	b := world.Act{Kind: a.Kind, W: a.W}
	if tells(a.Kind, "N") {
		b.N = a.N
	}
	if tells(a.Kind, "F") {
		b.From = a.From
	}
	if tells(a.Kind, "T") {
		b.T = a.T
	}
	if tells(a.Kind, "K") {
		b.R = a.R
	}
	return b
}

func (k known) run(b []byte, workers int, text string) (string, api.Errno) {
	raw, e, _ := draft.Get(b)
	if e != api.OK {
		return "", e
	}
	w, e, _ := world.New(raw, workers)
	if e != api.OK {
		return "", e
	}
	acts, _, e := k.parse(text, raw.Arity)
	if e != api.OK {
		return "", e
	}
	return plainReport(w, acts), api.OK
}

// plainReport does acts in a world, and tells what chapter 26 answers of it.
func plainReport(w *world.World, acts []world.Act) string {
	raw := w.Graph().Raw()
	var l []string
	tell := func(what ...any) { l = append(l, strings.TrimSuffix(fmt.Sprintln(what...), "\n")) }
	for _, a := range acts {
		x, e := w.Do(a)
		m := strings.Join([]string{fmt.Sprint(x.Message.At), plainTime(x.Message.T, raw.Arity), fmt.Sprint(x.Message.R.Key), fmt.Sprint(x.Message.R.Val)}, " ")
		ids := strings.TrimSuffix(" "+strings.Trim(fmt.Sprint(x.IDs), "[]"), " ")
		switch {
		case e != api.OK:
			tell("no", int(e))
		case a.Kind == world.Take:
			tell("ok", m+ids)
		case a.Kind == world.Pass:
			tell("ok", m)
		case a.Kind == world.Clone:
			tell("ok" + ids)
		default:
			tell("ok")
		}
	}
	tell("outstanding", w.Outstanding())
	for _, c := range w.Tokens() {
		tell("token", c.S.At, plainTime(c.S.T, raw.Arity), c.N)
	}
	places := 0
	traps := map[int]int{} // by node, the place
	for node, n := range raw.Nodes {
		if n.Kind == api.KProbe {
			traps[node] = places
			for _, c := range w.Caught(node) {
				tell("caught", node, plainTime(c.T, raw.Arity), c.R.Key, c.R.Val)
			}
		}
		places += n.Ins + n.Outs
	}
	for self := range w.Workers() {
		for node := range raw.Nodes {
			place, is := traps[node]
			if !is {
				continue
			}
			s := fmt.Sprintf("front %d %d", self, node)
			for _, t := range w.Front(self, place) {
				s += " " + plainTime(t, raw.Arity)
			}
			tell(s)
		}
	}
	return strings.Join(l, "\n") + "\n"
}
