package delta

import (
	"maps"
	"slices"

	"hindcast/api"
	"hindcast/pack"
	"hindcast/world"
)

// told is what a delta tells.
type told struct {
	from, to []byte   // of each world the two rows with which its Snapshot begins
	changes  []change // by rising entities
}

// poolOf gives the two rows with which the Snapshot of a world begins.
func poolOf(w *world.World) []byte {
	r := &reader{b: w.Snapshot()}
	return r.pool()
}

// written gives the delta's bytes. (The rows have no room behind them: appending to them makes new memory.)
func (t told) written() []byte {
	b := append(t.from, t.to...)
	b = append(b, pack.Put(nil, uint64(len(t.changes)))...)
	for _, c := range t.changes {
		b = append(b, c.written()...)
	}
	return b
}

// written gives bytes of the change's own, as each Put copies all that stands ahead.
func (c change) written() []byte {
	b := pack.Put(nil, uint64(c.e.Index))
	b = pack.Put(b, uint64(c.e.Gen))
	b = pack.Put(b, uint64(c.what))
	if c.what&lived != 0 {
		b = pack.Put(b, setOf(c.from))
	}
	if c.what&lives != 0 {
		b = pack.Put(b, setOf(c.to))
	}
	return putValues(putValues(b, c.from), c.to)
}

// snapshot gives what the Snapshot of the other world must be, if these are the rows of the one.
func (t told) snapshot(rows []api.Row) []byte {
	parts := partsOf(rows)
	for _, c := range t.changes {
		if c.what == gone {
			delete(parts, c.e)
		} else {
			parts[c.e] = c.laidOver(parts[c.e], c.to)
		}
	}
	b := slices.Clone(t.to)
	for _, e := range slices.SortedFunc(maps.Keys(parts), compareEntities) {
		set := pack.Put(nil, setOf(parts[e]))
		b = append(b, putValues(set, parts[e])...)
	}
	return b
}
