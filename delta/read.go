package delta

import (
	"math"

	"hindcast/api"
	"hindcast/pack"
)

// reader goes through the bytes of a delta; where something is wrong it stays, and all that it reads there means nothing.
type reader struct {
	kinds []api.Kind
	b     []byte
	at    int
	wrong bool
}

// read reads a delta; if the bytes have not its form, it tells where.
func read(kinds []api.Kind, b []byte) (told, *api.Fault) {
	r := &reader{kinds: kinds, b: b}
	t := told{from: r.pool(), to: r.pool()}
	ahead := api.Entity{}
	for range r.number(0, math.MaxUint64) {
		c := r.change(ahead)
		if r.wrong {
			break // whatever the number says: there may be fewer than so many
		}
		t.changes = append(t.changes, c)
		ahead = c.e
	}
	if r.wrong || r.at < len(b) {
		return told{}, &api.Fault{At: r.at, Err: api.ErrDelta}
	}
	return t, nil
}

// step goes behind what was read, if something of its sort was there (a Get tells 0, if not) and may stand there.
func (r *reader) step(size int, may bool) {
	r.wrong = r.wrong || size == 0 || !may
	if !r.wrong {
		r.at += size
	}
}

// pool cuts out two rows. The cut ends where they do, with its room: who appends to it does not write into the bytes.
func (r *reader) pool() []byte {
	begin := r.at
	for range 2 {
		_, size := pack.GetRow(r.b[r.at:], api.MaxEntities)
		r.step(size, true)
	}
	return r.b[begin:r.at:r.at]
}

// number reads one that is from least to most.
func (r *reader) number(least, most uint64) uint64 {
	n, size := pack.Get(r.b[r.at:])
	r.step(size, n >= least && n <= most)
	return n
}

// entity reads one that comes behind that of the change ahead.
func (r *reader) entity(ahead api.Entity) api.Entity {
	index := int(r.number(uint64(ahead.Index), api.MaxEntities-1))
	least := 1
	if index == ahead.Index {
		least = ahead.Gen + 1
	}
	return api.Entity{Index: index, Gen: int(r.number(uint64(least), api.MaxGen))}
}

// change reads one.
func (r *reader) change(ahead api.Entity) change {
	c := change{e: r.entity(ahead), what: int(r.number(gone, changed))}
	switch c.what {
	case gone:
		c.from = r.parts(r.set(), nil)
	case born:
		c.to = r.parts(r.set(), nil)
	case changed:
		first := r.set()
		second := r.secondSet(first)
		c.from = r.parts(first, nil)
		c.to = r.parts(second, c.from)
	}
	return c
}

// set reads a set of kinds.
func (r *reader) set() uint64 {
	n, size := pack.Get(r.b[r.at:])
	r.step(size, n&^r.all() == 0)
	return n
}

// secondSet reads that of the touched kinds in the other world: some kind is touched, and one without fields can't be in both and change.
func (r *reader) secondSet(first uint64) uint64 {
	n, size := pack.Get(r.b[r.at:])
	r.step(size, n&^r.all() == 0 && first|n != 0 && first&n&r.bare() == 0)
	return n
}

// all is the set of all kinds.
func (r *reader) all() uint64 { return 1<<(len(r.kinds)+1) - 2 }

// bare is the set of the kinds without fields.
func (r *reader) bare() uint64 {
	set := uint64(0)
	for i, kind := range r.kinds {
		if len(kind.Fields) == 0 {
			set |= 2 << i
		}
	}
	return set
}

// parts reads those of a set; none may be the same as among others.
func (r *reader) parts(set uint64, others []api.Part) []api.Part {
	var parts []api.Part
	for i, kind := range r.kinds {
		if set&(2<<i) == 0 {
			continue
		}
		begin := r.at
		parts = append(parts, api.Part{Kind: i + 1, Values: r.values(len(kind.Fields))})
		if !r.wrong && sameOf(i+1, parts, others) {
			r.at, r.wrong = begin, true
		}
	}
	return parts
}

// values reads so many.
func (r *reader) values(count int) []int64 {
	values := make([]int64, count)
	for i := range values {
		x, size := pack.GetInt(r.b[r.at:])
		r.step(size, true)
		values[i] = x
	}
	return values
}
