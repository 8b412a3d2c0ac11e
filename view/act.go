package view

import (
	"sluice/api"
	"sluice/batch"
)

// own is the changes of one of the worker's own acts.
type own []api.Change

func (l own) changes() ([]api.Change, error) { return l, nil }

// heard is the batch of another worker's act.
type heard []byte

func (b heard) changes() ([]api.Change, error) { return batch.Get(b) }

// take adds an act's changes to the counts, all or none: why the counts refuse them, and, apart from that, why the act can't tell them, since that error goes out as it is.
func (v *View) take(act func() ([]api.Change, error)) (api.Errno, error) {
	if v == nil {
		return api.OK, nil
	}
	l, err := act()
	if err != nil {
		return api.OK, err
	}
	return v.known.Change(l...), nil
}
