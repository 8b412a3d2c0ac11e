package asks

import (
	"reflect"
	"testing"

	"sluice/api"
	"sluice/draws"
	"sluice/world"
)

func begin(t *testing.T, g api.Graph, workers int) *world.World {
	t.Helper()
	w, e, _ := world.New(g, workers)
	if e != api.OK {
		t.Fatalf("New = %d: %v", e, g)
	}
	return w
}

func TestAllKindsAreAskedDoneAndRefused(t *testing.T) {
	var done, refused [world.Pass + 1]int
	for seed := range uint64(200) {
		next := draws.Numbers(seed)
		raw, workers := draws.Lively(next), 1+next(api.MaxWorkers)
		w := begin(t, raw, workers)
		acts := Goes(next, w, 120)
		other := begin(t, raw, workers)
		for _, a := range acts {
			if _, e := other.Do(a); e == api.OK {
				done[a.Kind]++
			} else {
				refused[a.Kind]++
			}
		}
		if len(acts) != 120 || !reflect.DeepEqual(w.Tokens(), other.Tokens()) || w.Outstanding() != other.Outstanding() {
			t.Errorf("seed %d: the acts that are answered aren't those that were done", seed)
		}
	}
	for kind := world.Send; kind <= world.Pass; kind++ {
		if done[kind] < 20 || refused[kind] < 5 {
			t.Errorf("the kind %d is done %d times, refused %d times", kind, done[kind], refused[kind])
		}
	}
}

func TestTheSameSeedAsksTheSame(t *testing.T) {
	for seed := range uint64(20) {
		raw := draws.Lively(draws.Numbers(seed))
		l := Goes(draws.Numbers(seed), begin(t, raw, 3), 80)
		if !reflect.DeepEqual(l, Goes(draws.Numbers(seed), begin(t, raw, 3), 80)) {
			t.Errorf("seed %d: two runs ask other acts", seed)
		}
	}
}
