package queue

import (
	"math"
	"slices"
	"testing"

	"sluice/api"
)

const top = math.MaxUint64

// m is a message at a place, as the chapter's examples write it: time (A alone), key and value.
func m(at int, a, key, val uint64) api.Message {
	return api.Message{At: at, T: api.Time{A: a}, R: api.Record{Key: key, Val: val}}
}

func count(at int, t api.Time, n int64) api.Change {
	return api.Change{S: api.Stamp{At: at, T: t}, N: n}
}

func begin(t *testing.T, places int) *Queue {
	t.Helper()
	q, e := New(places)
	if q == nil || e != api.OK {
		t.Fatalf("New(%d): %v, %d", places, q, e)
	}
	return q
}

func puts(t *testing.T, q *Queue, l ...api.Message) {
	t.Helper()
	for _, x := range l {
		if e := q.Put(x); e != api.OK {
			t.Errorf("Put(%v): %d", x, e)
		}
	}
}

func takes(t *testing.T, q *Queue, place int, l ...api.Message) {
	t.Helper()
	for _, want := range l {
		if x, e := q.Take(place); x != want || e != api.OK {
			t.Errorf("Take(%d): %v, %d, want %v", place, x, e, want)
		}
	}
}

func drains(t *testing.T, q *Queue, place int, want ...api.Message) {
	t.Helper()
	if l, e := q.Drain(place); !slices.Equal(l, want) || e != api.OK {
		t.Errorf("Drain(%d): %v, %d, want %v", place, l, e, want)
	}
}

// waits asks by the calls that tell something about one place: these wait there, and no others.
func waits(t *testing.T, q *Queue, place int, want ...api.Message) {
	t.Helper()
	if l := q.List(place); !slices.Equal(l, want) || q.Len(place) != len(want) {
		t.Errorf("List(%d): %v, Len %d, want %v", place, l, q.Len(place), want)
	}
}

func counts(t *testing.T, q *Queue, total int, want ...api.Change) {
	t.Helper()
	if l := q.Counts(); !slices.Equal(l, want) || q.Total() != total {
		t.Errorf("Counts %v, Total %d, want %v, %d", l, q.Total(), want, total)
	}
}

// isEmpty tells that nothing waits at a place, and that taking from it changes nothing.
func isEmpty(t *testing.T, q *Queue, place int) {
	t.Helper()
	total, all := q.Total(), q.Counts()
	for range 2 {
		waits(t, q, place)
		if x, e := q.Take(place); x != (api.Message{}) || e != api.ErrEmpty {
			t.Errorf("Take(%d) of none: %v, %d", place, x, e)
		}
		drains(t, q, place)
	}
	counts(t, q, total, all...)
}

// isNoPlace tells that a queue hasn't that place, and that asking for it changes nothing.
func isNoPlace(t *testing.T, q *Queue, place int) {
	t.Helper()
	total, all := q.Total(), q.Counts()
	for range 2 {
		if e := q.Put(api.Message{At: place, R: api.Record{Key: 1}}); e != api.ErrPlace {
			t.Errorf("Put at %d: %d, want ErrPlace", place, e)
		}
		if x, e := q.Take(place); x != (api.Message{}) || e != api.ErrPlace {
			t.Errorf("Take(%d): %v, %d, want ErrPlace", place, x, e)
		}
		if l, e := q.Drain(place); len(l) != 0 || e != api.ErrPlace {
			t.Errorf("Drain(%d): %v, %d, want ErrPlace", place, l, e)
		}
		waits(t, q, place)
	}
	counts(t, q, total, all...)
}

// beyond is numbers that none of so many places has.
func beyond(places int) []int {
	return []int{-1, -2, -192, places, places + 1, 192, 193, 1 << 32, -1 << 32, math.MaxInt32, math.MinInt32, math.MaxInt, math.MaxInt - 1, math.MinInt, math.MinInt + 1}
}

func TestTheFirstTwoExamples(t *testing.T) { // P19.2, P19.3
	q := begin(t, 3)
	puts(t, q, m(1, 5, 7, 8), m(1, 4, 0, 0), m(2, 5, 7, 8), m(1, 5, 9, 9))
	if q.Len(1) != 3 {
		t.Errorf("Len(1): %d", q.Len(1))
	}
	counts(t, q, 4, count(1, api.Time{A: 4}, 1), count(1, api.Time{A: 5}, 2), count(2, api.Time{A: 5}, 1))
	waits(t, q, 1, m(1, 5, 7, 8), m(1, 4, 0, 0), m(1, 5, 9, 9))
	waits(t, q, 2, m(2, 5, 7, 8))
	isEmpty(t, q, 0)

	takes(t, q, 1, m(1, 5, 7, 8))
	drains(t, q, 1, m(1, 4, 0, 0), m(1, 5, 9, 9))
	isEmpty(t, q, 1)
	counts(t, q, 1, count(2, api.Time{A: 5}, 1))
}

func TestTheOtherExamples(t *testing.T) { // P19.1, P19.2, P19.3
	q := begin(t, 3)
	puts(t, q, m(2, 5, 7, 8))
	isNoPlace(t, q, 3)
	isNoPlace(t, q, -1)
	for _, places := range []int{-1, 193} {
		if q, e := New(places); q != nil || e != api.ErrArg {
			t.Errorf("New(%d): %v, %d", places, q, e)
		}
	}
	none := begin(t, 0)
	isNoPlace(t, none, 0)
	counts(t, none, 0)
}

func TestHowManyPlaces(t *testing.T) { // P19.1
	for places := range 193 {
		q := begin(t, places)
		counts(t, q, 0)
		for place := range places {
			isEmpty(t, q, place)
		}
		isNoPlace(t, q, places)
		isNoPlace(t, q, -1)
	}
	for _, places := range []int{-1, -2, -192, 193, 194, 384, 1 << 32, 1<<32 + 3, -1 << 32, math.MaxInt, math.MaxInt - 1, math.MinInt, math.MinInt + 1, math.MinInt + 192} {
		if q, e := New(places); q != nil || e != api.ErrArg {
			t.Errorf("New(%d): %v, %d, want nil, ErrArg", places, q, e)
		}
	}
}

func TestEachPlace(t *testing.T) { // P19.1, P19.2, P19.3
	for _, places := range []int{1, 2, 3, 191, 192} {
		q := begin(t, places)
		var all []api.Change
		for place := range places {
			isEmpty(t, q, place)
			puts(t, q, m(place, 2, uint64(place), 0), m(place, 1, 0, uint64(place)), m(place, 2, 9, 9))
			all = append(all, count(place, api.Time{A: 1}, 1), count(place, api.Time{A: 2}, 2))
			counts(t, q, 3*(place+1), all...)
		}
		for place := range places {
			waits(t, q, place, m(place, 2, uint64(place), 0), m(place, 1, 0, uint64(place)), m(place, 2, 9, 9))
			takes(t, q, place, m(place, 2, uint64(place), 0))
			waits(t, q, place, m(place, 1, 0, uint64(place)), m(place, 2, 9, 9))
			drains(t, q, place, m(place, 1, 0, uint64(place)), m(place, 2, 9, 9))
			isEmpty(t, q, place)
			counts(t, q, 3*(places-place-1), all[2*(place+1):]...)
		}
	}
}

func TestNumbersThatAreNoPlaces(t *testing.T) { // P19.2, P19.3, P3
	for _, places := range []int{0, 1, 3, 192} {
		q := begin(t, places)
		for place := range places {
			puts(t, q, m(place, 1, 2, 3))
		}
		for _, place := range beyond(places) {
			if place < 0 || place >= places {
				isNoPlace(t, q, place)
			}
		}
		for place := range places {
			waits(t, q, place, m(place, 1, 2, 3))
		}
	}
}

// numbered is messages at a place, told apart by their values alone.
func numbered(place, from, many int) []api.Message {
	var l []api.Message
	for i := range many {
		l = append(l, m(place, 1, 2, uint64(from+i)))
	}
	return l
}

func TestAnyPutsAndTakesAtOnePlace(t *testing.T) { // P19.2, P19.3
	// So many are put in each round, so many are taken, a few wait from the beginning on.
	for put := 1; put <= 7; put++ {
		for taken := 0; taken <= 7; taken++ {
			for early := range 5 {
				q := begin(t, 2)
				on := numbered(1, 0, early)
				puts(t, q, on...)
				for round := range 40 {
					more := numbered(1, 100*(round+1), put)
					puts(t, q, more...)
					on = append(on, more...)
					out := min(taken, len(on))
					takes(t, q, 1, on[:out]...)
					on = on[out:]
					waits(t, q, 1, on...)
				}
				if q.Total() != len(on) {
					t.Errorf("Total: %d, want %d", q.Total(), len(on))
				}
				drains(t, q, 1, on...)
				isEmpty(t, q, 1)
			}
		}
	}
}

func TestGrowingAtEachTurn(t *testing.T) { // P19.2, P19.3
	// So many wait, so many of them are taken and as many put behind, then more come till all must have grown.
	for many := 1; many <= 40; many++ {
		for turned := range 2 * many {
			q := begin(t, 1)
			puts(t, q, numbered(0, 0, many)...)
			for i := range turned {
				takes(t, q, 0, m(0, 1, 2, uint64(i)))
				puts(t, q, m(0, 1, 2, uint64(many+i)))
			}
			waits(t, q, 0, numbered(0, turned, many)...)
			puts(t, q, numbered(0, turned+many, 2*many)...)
			waits(t, q, 0, numbered(0, turned, 3*many)...)
			takes(t, q, 0, numbered(0, turned, 3*many)...)
			isEmpty(t, q, 0)
		}
	}
}

func TestAPlaceEmptyAgainAndAgain(t *testing.T) { // P19.2, P19.3
	q := begin(t, 2)
	puts(t, q, m(0, 1, 1, 1))
	next := 0
	for round, many := range []int{1, 1, 2, 1, 3, 7, 0, 64, 5, 65, 1, 300, 2, 0, 8, 9} {
		isEmpty(t, q, 1)
		l := numbered(1, next, many)
		next += many
		puts(t, q, l...)
		waits(t, q, 1, l...)
		taken := many * (round % 3) / 2 // none, a half, all
		takes(t, q, 1, l[:taken]...)
		drains(t, q, 1, l[taken:]...)
		counts(t, q, 1, count(0, api.Time{A: 1}, 1))
	}
	isEmpty(t, q, 1)
	waits(t, q, 0, m(0, 1, 1, 1))
}

func TestDrainAndPutAgain(t *testing.T) { // P19.2
	q := begin(t, 1)
	for many := range 20 {
		for taken := range many + 1 {
			puts(t, q, numbered(0, 0, many)...)
			takes(t, q, 0, numbered(0, 0, taken)...)
			drains(t, q, 0, numbered(0, taken, many-taken)...)
			isEmpty(t, q, 0)
			puts(t, q, numbered(0, 50, 3)...)
			waits(t, q, 0, numbered(0, 50, 3)...)
			drains(t, q, 0, numbered(0, 50, 3)...)
		}
	}
}

func TestTheSameMessageAgain(t *testing.T) { // P19.2, P19.3
	q := begin(t, 2)
	x, zero := m(1, 4, 1, 1), api.Message{}
	puts(t, q, x, zero, x, zero, zero, x)
	waits(t, q, 0, zero, zero, zero)
	waits(t, q, 1, x, x, x)
	counts(t, q, 6, count(0, api.Time{}, 3), count(1, api.Time{A: 4}, 3))
	takes(t, q, 0, zero, zero) // zero values wait as others do
	counts(t, q, 4, count(0, api.Time{}, 1), count(1, api.Time{A: 4}, 3))
	takes(t, q, 0, zero)
	isEmpty(t, q, 0)
}

// edges is times of every arity, and of none, in the order of telling.
func edges() []api.Time {
	var l []api.Time
	numbers := []uint64{0, 1, 1<<63 - 1, 1 << 63, top - 1, top}
	for _, a := range numbers {
		for _, b := range numbers {
			for _, c := range numbers {
				l = append(l, api.Time{A: a, B: b, C: c})
			}
		}
	}
	return l
}

func TestCountsOfAnyTimes(t *testing.T) { // P19.3, P19.4
	times := edges()
	q := begin(t, 3)
	var want []api.Change
	total := 0
	// Each time so often as its number tells; put backwards, then across.
	for place := range 3 {
		for i, x := range times {
			want = append(want, count(place, x, int64(1+(i+place)%3)))
			total += 1 + (i+place)%3
		}
	}
	for round := range 3 {
		for i := len(want) - 1; i >= 0; i-- {
			j := i
			if round == 1 {
				j = i * 5 % len(want) // 5 has nothing in common with 648
			}
			if want[j].N > int64(round) {
				puts(t, q, api.Message{At: want[j].S.At, T: want[j].S.T, R: api.Record{Key: uint64(i), Val: top - uint64(j)}})
			}
		}
	}
	counts(t, q, total, want...)
	for place := range 3 {
		if n := q.Len(place); n < len(times) {
			t.Errorf("Len(%d): %d", place, n)
		}
	}
}

func TestCountsOfOrdersOfComing(t *testing.T) { // P19.3
	a, b, c := api.Time{A: 1, B: 2}, api.Time{A: 1, B: 3}, api.Time{A: 2}
	want := []api.Change{count(0, a, 2), count(0, b, 1), count(0, c, 1)}
	times := []api.Time{a, b, c, a}
	for i := range 4 * 4 * 4 * 4 {
		order := []int{i % 4, i / 4 % 4, i / 16 % 4, i / 64}
		sorted := slices.Sorted(slices.Values(order))
		if !slices.Equal(sorted, []int{0, 1, 2, 3}) {
			continue
		}
		q := begin(t, 1)
		for _, j := range order {
			puts(t, q, api.Message{T: times[j], R: api.Record{Val: uint64(j)}})
		}
		counts(t, q, 4, want...)
		for k, j := range order { // to be counted moves none
			takes(t, q, 0, api.Message{T: times[j], R: api.Record{Val: uint64(j)}})
			if q.Total() != 3-k {
				t.Errorf("Total: %d, want %d", q.Total(), 3-k)
			}
		}
		counts(t, q, 0)
	}
}

func TestAnyRecords(t *testing.T) { // P19.4
	q := begin(t, 1)
	var l []api.Message
	for _, x := range edges() {
		l = append(l, api.Message{T: x, R: api.Record{Key: x.B, Val: x.C}}, api.Message{R: api.Record{Key: x.C, Val: x.A}})
	}
	puts(t, q, l...)
	waits(t, q, 0, l...)
	takes(t, q, 0, l[:100]...)
	drains(t, q, 0, l[100:]...)
}

func TestManyMessages(t *testing.T) { // P19.2, P19.3
	q := begin(t, 192)
	const many = 50000
	for i := range many {
		puts(t, q, m(191, uint64(i%7), 0, uint64(i)), m(0, uint64(i), 0, uint64(i)))
		if i%2 == 1 {
			takes(t, q, 191, m(191, uint64(i/2%7), 0, uint64(i/2)))
		}
	}
	if q.Len(0) != many || q.Len(191) != many/2 || q.Total() != many+many/2 || len(q.Counts()) != many+7 {
		t.Errorf("Len(0) %d, Len(191) %d, Total %d, %d stamps", q.Len(0), q.Len(191), q.Total(), len(q.Counts()))
	}
	for i := range many / 2 {
		takes(t, q, 191, m(191, uint64((many/2+i)%7), 0, uint64(many/2+i)))
	}
	isEmpty(t, q, 191)
	for i := range many {
		takes(t, q, 0, m(0, uint64(i), 0, uint64(i)))
	}
	isEmpty(t, q, 0)
	counts(t, q, 0)
}
