package ledger

import (
	"cmp"

	"sluice/api"
	"sluice/stamp"
	"sluice/tally"
)

// sums is what Ledger embeds: for each stamp, how often it was made less how often it was used.
type sums struct{ tally *tally.Tally[api.Stamp] }

func noSums() sums { return sums{tally.New(order)} }

func (n sums) add(s api.Stamp, by int64) api.Errno { return n.tally.Add(s, by) }

func (n sums) sum(s api.Stamp) int64 { return n.tally.Get(s) }

func (n sums) many() int { return n.tally.Len() }

func (n sums) stamps() []api.Stamp { return n.tally.Keys() }

func (n sums) empty() { n.tally.Clear() }

func (n sums) copied() sums { return sums{n.tally.Copy()} }

// order is that of stamps: by places, then times in the order of telling.
func order(a, b api.Stamp) int {
	return cmp.Or(cmp.Compare(a.At, b.At), stamp.Compare(a.T, b.T))
}
