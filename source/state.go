package source

import (
	"sluice/api"
	"sluice/stamp"
)

// open is an input by which records may still come, from its epoch on.
type open struct{ since api.Time }

func (o open) maySend(t api.Time) api.Errno {
	if !stamp.Ahead(o.since, t) {
		return api.ErrEpoch
	}
	return api.OK
}

func (o open) mayClose() api.Errno { return api.OK }

func (o open) epoch() (api.Time, bool) { return o.since, true }

// closed is an input by which nothing comes any more: its last epoch is forgotten.
type closed struct{}

func (closed) maySend(t api.Time) api.Errno { return api.ErrClosed }

func (closed) mayClose() api.Errno { return api.ErrClosed }

func (closed) epoch() (api.Time, bool) { return api.Time{}, false }
