package flow

import (
	"math"

	"sluice/api"
	"sluice/code"
	"sluice/path"
	"sluice/stamp"
)

type mapper struct {
	made bool
	code []api.Op
}

type filter struct {
	made bool
	code []api.Op
}

type join struct{ made bool }

type loop struct {
	made  bool
	by    api.Path
	limit api.Time
}

// Do maps every record.
func (m *mapper) Do(t api.Time, r api.Record) (api.Time, api.Record, bool) {
	if m == nil {
		return letGo()
	}
	return t, code.Map(m.code, r), true
}

// Do lets those records through that pass.
func (f *filter) Do(t api.Time, r api.Record) (api.Time, api.Record, bool) {
	if f == nil || !code.Pass(f.code, r) {
		return letGo()
	}
	return t, r, true
}

// Do lets every record through.
func (j *join) Do(t api.Time, r api.Record) (api.Time, api.Record, bool) {
	if j == nil {
		return letGo()
	}
	return t, r, true
}

// Do sends a record on at a later time, as long as that is within the limit.
func (l *loop) Do(t api.Time, r api.Record) (api.Time, api.Record, bool) {
	if l == nil {
		return letGo()
	}
	later, ok := path.On(l.by, t)
	if !ok || !stamp.Ahead(later, l.limit) {
		return letGo()
	}
	return later, r, true
}

func letGo() (api.Time, api.Record, bool) { return api.Time{}, api.Record{}, false }

// limitOf is the time that all times behind a loop are at or ahead of.
func limitOf(by api.Path, bound uint64) api.Time {
	return api.Time{A: mostOf(by.A, bound), B: mostOf(by.B, bound), C: mostOf(by.C, bound)}
}

// mostOf is the most that one number may be: the bound holds only where the loop adds something.
func mostOf(added, bound uint64) uint64 {
	if added == 0 {
		return math.MaxUint64
	}
	return bound
}
