package script

import (
	"fmt"
	"math"
	"slices"
	"strings"
	"testing"

	"sluice/api"
	"sluice/asks"
	"sluice/draws"
	"sluice/world"
)

// drawnScript is so many acts, drawn ahead of what comes of them.
func drawnScript(t *testing.T, next func(below int) int, raw api.Graph, workers, many int) []world.Act {
	t.Helper()
	w, e, _ := world.New(raw, workers)
	if e != api.OK {
		t.Fatalf("%d: %v", e, raw)
	}
	return asks.Goes(next, w, many)
}

func TestDrawnRuns(t *testing.T) { // P27.4, P10: line by line what the calls of chapter 26 answer
	k := known{}
	often := map[string]int{}
	for seed := range uint64(500) {
		next := draws.Numbers(seed)
		raw := draws.Lively(next)
		workers := []int{1, 1, 2, 3, api.MaxWorkers}[next(5)]
		many := next(250)
		if seed%50 == 0 {
			many = api.MaxLines
		}
		acts := drawnScript(t, next, raw, workers, many)
		text, e := plainText(acts, raw.Arity)
		if len(text) > api.MaxText || e != api.OK {
			t.Fatalf("seed %d: %d bytes, %d", seed, len(text), e)
		}
		b := bytesOf(t, raw)
		want, _ := k.run(b, workers, text)
		got, e := Run(b, workers, text)
		lines, wanted := strings.Split(got, "\n"), strings.Split(want, "\n")
		for i := range min(len(lines), len(wanted)) {
			if lines[i] != wanted[i] {
				t.Fatalf("seed %d, %d workers, %v: line %d is %q, want %q", seed, workers, raw, i+1, lines[i], wanted[i])
			}
		}
		if e != api.OK || got != want {
			t.Fatalf("seed %d: %d lines, %d, want %d", seed, len(lines), e, len(wanted))
		}
		counts(often, acts, lines)
		often[fmt.Sprint(workers, " workers")]++
		often[fmt.Sprint("probes ", min(2, probesOf(raw)))]++
	}
	for _, what := range whatIsReported() {
		if often[what] < 10 {
			t.Errorf("drawn: %q only %d times: %v", what, often[what], often)
		}
	}
}

func probesOf(raw api.Graph) int {
	many := 0
	for _, n := range raw.Nodes {
		if n.Kind == api.KProbe {
			many++
		}
	}
	return many
}

// counts adds up what a report tells.
func counts(often map[string]int, acts []world.Act, lines []string) {
	for i, line := range lines {
		words := strings.Fields(line)
		switch {
		case i < len(acts) && words[0] == "no":
			often[name(acts[i].Kind)+" "+line]++
		case i < len(acts):
			often[fmt.Sprint(name(acts[i].Kind), " of ", min(len(words), 7))]++
		case len(words) > 0 && words[0] == "front":
			often[fmt.Sprint("front of ", min(len(words), 5))]++
		case len(words) > 0:
			often[words[0]]++
		}
	}
}

// whatIsReported is what drawn runs come to.
func whatIsReported() []string {
	l := []string{"send of 1", "advance of 1", "close of 1", "take of 5", "take of 6", "take of 7", "clone of 2", "lower of 1", "drop of 1", "emit of 1", "run of 1", "step of 1", "hear of 1", "pass of 5"}
	l = append(l, "send no 41", "send no 45", "send no 46", "send no 40", "advance no 46", "take no 42", "clone no 47", "drop no 47", "emit no 48", "lower no 48", "run no 41", "step no 40", "hear no 43", "hear no 40", "pass no 43", "pass no 40")
	return append(l, "outstanding", "token", "caught", "front of 3", "front of 4", "front of 5", "1 workers", "2 workers", "3 workers", "8 workers", "probes 0", "probes 1", "probes 2")
}

// lettered is a text of words that lines have, and of others.
func lettered(next func(below int) int) string {
	words := strings.Fields("send send advance close take clone lower drop emit run step step hear pass 0 0 0 0 1 1 2 3 0.0 1.2 0.0.0 5 x -1 2147483648 18446744073709551616")
	text := ""
	for range next(40) {
		text += words[next(len(words))]
		if next(4) == 0 {
			text += "\n"
		} else {
			text += " "
		}
	}
	return text
}

func TestAnyBytesAnyWorkersAnyText(t *testing.T) { // P27.5, P10, P1: an answer, and no panic
	k, often := known{}, map[api.Errno]int{}
	some := []byte{0, 1, 1, 2, 6, 7, 8, 9, 128, 255}
	for seed := range uint64(6000) {
		next := draws.Numbers(seed)
		raw := draws.Coded(next, draws.Graph(next, 6, 9))
		if next(2) == 0 {
			raw = draws.Lively(next)
		}
		b := bytesOf(t, raw)
		for range next(3) {
			i := next(len(b) + 1)
			b = slices.Concat(b[:i], []byte{some[next(len(some))]}[:next(2)], b[min(len(b), i+next(2)):])
		}
		if next(10) == 0 {
			b = []byte(lettered(next))
		}
		workers := []int{1, 1, 2, 3, 8, 0, 9, -1, math.MaxInt, math.MinInt}[next(10)]
		text := lettered(next)
		if next(2) == 0 {
			text, _ = plainText(drawer{next, 0}.acts(raw.Arity, 20), raw.Arity)
		}
		got, e := Run(b, workers, text)
		want, f := k.run(b, workers, text)
		if got != want || e != f {
			t.Fatalf("Run(% x, %d, %q) = %q, %d, want %q, %d", b, workers, text, got, e, want, f)
		}
		k.parsesAsTold(t, text, 1+next(3))
		often[e]++
	}
	for _, e := range []api.Errno{api.OK, api.ErrLine, api.ErrWorker, api.ErrCycle, api.ErrShort, api.ErrRest, api.ErrKind, api.ErrArity, api.ErrEdge, api.ErrCode} {
		if often[e] < 10 {
			t.Errorf("error %d came %d times only: %v", e, often[e], often)
		}
	}
}

func TestAnyText(t *testing.T) { // P27.5, P1: bytes of all kinds
	k := known{}
	for seed := range uint64(5000) {
		next := draws.Numbers(seed)
		b := make([]byte, next(60))
		for i := range b {
			b[i] = []byte{byte(next(256)), ' ', '\n', '0' + byte(next(10)), 'a' + byte(next(26))}[next(5)]
		}
		k.parsesAsTold(t, string(b), 1+next(3))
		k.parsesAsTold(t, "step 0\n"+string(b), next(9)-3)
	}
	for _, arity := range noArities() {
		k.parsesAsTold(t, "step 0\n", arity)
	}
}
