package batch

import (
	"strconv"

	"sluice/api"
	"sluice/wire"
)

// Fault is what is wrong, and where.
type Fault struct {
	At  int
	Err api.Errno
}

// Error is the fault in words.
func (f *Fault) Error() string {
	if f == nil {
		return ""
	}
	return "batch: at " + strconv.Itoa(f.At) + ": " + f.Err.Error()
}

// Unwrap is the number inside.
func (f *Fault) Unwrap() error {
	if f == nil {
		return nil
	}
	return f.Err
}

// refused wraps what a reader has refused with the place at which that began.
func refused(r *wire.Reader) *Fault { return &Fault{r.At(), r.Err()} }
