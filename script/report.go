package script

import (
	"strconv"
	"strings"

	"sluice/api"
	"sluice/stamp"
	"sluice/world"
)

// report is what a run tells, line by line, with times of one arity.
type report struct {
	text  strings.Builder
	arity int
}

func (r *report) line(words ...string) { r.text.WriteString(lineOf(words...)) }

// act tells what came of one.
func (r *report) act(kind int, x world.Answer, e api.Errno) {
	if e != api.OK {
		r.line("no", strconv.Itoa(int(e)))
		return
	}
	words := []string{"ok"}
	if kind == world.Take || kind == world.Pass {
		m := x.Message
		words = append(words, strconv.Itoa(m.At), r.time(m.T), digits(m.R.Key), digits(m.R.Val))
	}
	for _, id := range x.IDs {
		words = append(words, strconv.Itoa(id))
	}
	r.line(words...)
}

// tokens tells how many messages are outstanding, and all tokens.
func (r *report) tokens(w *world.World) {
	r.line("outstanding", strconv.Itoa(w.Outstanding()))
	for _, c := range w.Tokens() {
		r.line("token", strconv.Itoa(c.S.At), r.time(c.S.T), strconv.FormatInt(c.N, 10))
	}
}

// caught tells the records of each probe.
func (r *report) caught(w *world.World) {
	for _, node := range probes(w) {
		for _, c := range w.Caught(node) {
			r.line("caught", strconv.Itoa(node), r.time(c.T), digits(c.R.Key), digits(c.R.Val))
		}
	}
}

// fronts tells each worker's front of each probe.
func (r *report) fronts(w *world.World) {
	for self := range w.Workers() {
		for _, node := range probes(w) {
			words := []string{"front", strconv.Itoa(self), strconv.Itoa(node)}
			for _, t := range w.Front(self, w.Graph().In(node, 0)) {
				words = append(words, r.time(t))
			}
			r.line(words...)
		}
	}
}

// time is a time's text. All times of a world fit its arity.
func (r *report) time(t api.Time) string {
	text, _ := stamp.Text(t, r.arity)
	return text
}

// probes is the numbers of all probes, rising.
func probes(w *world.World) []int {
	var l []int
	for node, n := range w.Graph().Raw().Nodes {
		if n.Kind == api.KProbe {
			l = append(l, node)
		}
	}
	return l
}
