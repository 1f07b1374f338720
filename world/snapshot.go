package world

import (
	"hindcast/api"
	"hindcast/ids"
	"hindcast/pack"
)

// Snapshot writes it, in its one way (W6).
func (w *World) Snapshot() []byte {
	gens, free := w.pool.State()
	b := pack.PutRow(nil, wide(gens))
	b = pack.PutRow(b, wide(free))
	for _, row := range w.Rows() {
		b = append(b, w.written(row)...)
	}
	return b
}

// Load reads what Snapshot wrote (W6).
func Load(kinds []api.Kind, b []byte) (*World, api.Errno) {
	w, bad := New(kinds)
	if bad != api.OK {
		return nil, bad
	}
	r := &reader{rest: b}
	gens := r.row()
	free := r.row()
	pool, bad := ids.From(api.MaxEntities, gens, free)
	if r.wrong || bad != api.OK {
		return nil, api.ErrWorld
	}
	w.pool = pool
	for _, e := range pool.All() {
		parts := w.read(r)
		if r.wrong {
			return nil, api.ErrWorld
		}
		w.put(e, parts)
	}
	if len(r.rest) > 0 {
		return nil, api.ErrWorld
	}
	return w, api.OK
}

// written gives what Snapshot writes of one entity: bytes of their own, as each Put copies all that stands ahead.
func (w *World) written(row api.Row) []byte {
	b := pack.Put(nil, uint64(w.sets[row.E]))
	for _, p := range row.Parts {
		for _, x := range p.Values {
			b = pack.PutInt(b, x)
		}
	}
	return b
}

// read reads one entity's parts; they mean nothing, if the reader finds something wrong.
func (w *World) read(r *reader) []api.Part {
	set := r.set(len(w.kinds))
	var parts []api.Part
	for kind := 1; kind <= len(w.kinds); kind++ {
		if has(set, kind) {
			parts = append(parts, api.Part{Kind: kind, Values: r.values(w.fields(kind))})
		}
	}
	return parts
}

// reader reads from the front of bytes; once something was wrong there, it stays so.
type reader struct {
	rest  []byte
	wrong bool
}

// skip goes behind what a Get has read; it tells 0 where there is nothing of its kind.
func (r *reader) skip(size int) {
	r.wrong = r.wrong || size == 0
	r.rest = r.rest[size:]
}

// row reads numbers of a pool.
func (r *reader) row() []int {
	row, size := pack.GetRow(r.rest, api.MaxEntities)
	r.skip(size)
	narrow := make([]int, len(row))
	for i, x := range row {
		narrow[i] = int(x)
		// An int may be of 32 bits: what it does not hold must not come to be another number.
		r.wrong = r.wrong || int64(narrow[i]) != x
	}
	return narrow
}

// set reads a set of some of so many kinds.
func (r *reader) set(kinds int) int {
	set, size := pack.Get(r.rest)
	r.skip(size)
	all := uint64(1)<<(kinds+1) - 2
	if set&^all != 0 {
		r.wrong = true
		return 0
	}
	return int(set)
}

// values reads a part's values.
func (r *reader) values(count int) []int64 {
	values := make([]int64, count)
	for i := range values {
		x, size := pack.GetInt(r.rest)
		r.skip(size)
		values[i] = x
	}
	return values
}

// wide gives a pool's numbers as those of a row to be packed.
func wide(numbers []int) []int64 {
	row := make([]int64, len(numbers))
	for i, n := range numbers {
		row[i] = int64(n)
	}
	return row
}
