package multi

import (
	"sluice/api"
	"sluice/stamp"
	"sluice/tally"
)

// counts is what Multi embeds: a count for each time.
type counts struct{ tally *tally.Tally[api.Time] }

func noCounts() counts { return counts{tally.New(stamp.Compare)} }

func (c counts) count(t api.Time) int64 { return c.tally.Get(t) }

func (c counts) many() int { return c.tally.Len() }

func (c counts) times() []api.Time { return c.tally.Keys() }

func (c counts) copied() counts { return counts{c.tally.Copy()} }

// behind is what each count that a list names will be behind the whole of it, whatever it is on the way; false: it, or a number of the list, is beyond the range.
func (c counts) behind(l []api.Delta) ([]api.Delta, bool) {
	// These sums may leave a count's range, so they stand in no tally.
	sums := map[api.Time]int64{}
	for _, d := range l {
		if beyond(d.N) {
			return nil, false
		}
		sums[d.T] += d.N
	}
	will := make([]api.Delta, 0, len(sums))
	for t, n := range sums {
		n += c.count(t)
		if beyond(n) {
			return nil, false
		}
		will = append(will, api.Delta{T: t, N: n})
	}
	return will, true
}

// set makes counts what they will be, each by way of 0: from one end of the range to the other is farther than a tally goes at once.
func (c counts) set(will []api.Delta) {
	for _, d := range will {
		c.tally.Add(d.T, -c.count(d.T))
		c.tally.Add(d.T, d.N)
	}
}

func beyond(n int64) bool { return n < -api.MaxCount || n > api.MaxCount }
