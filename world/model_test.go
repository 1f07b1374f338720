package world_test

import (
	"bytes"
	"math/rand"
	"slices"
	"testing"

	"hindcast/api"
	"hindcast/ids"
	"hindcast/pack"
	"hindcast/world"
)

// model is a world as the chapter's words say it: a pool, and of each that lives its values, by kinds.
type model struct {
	kinds []api.Kind
	pool  *ids.Pool
	parts map[api.Entity]map[int][]int64
}

func newModel(kinds []api.Kind) *model {
	pool, _ := ids.New(api.MaxEntities)
	return &model{kinds: kinds, pool: pool, parts: map[api.Entity]map[int][]int64{}}
}

// may tells what is wrong with a part of one that has these, where it must have that kind, or must not.
func (m *model) may(has map[int][]int64, kind int, must bool) api.Errno {
	if kind < 1 || kind > len(m.kinds) {
		return api.ErrKind
	}
	if _, found := has[kind]; found && !must {
		return api.ErrHas
	} else if !found && must {
		return api.ErrHasNot
	}
	return api.OK
}

func (m *model) fits(part api.Part) api.Errno {
	if len(part.Values) != len(m.kinds[part.Kind-1].Fields) {
		return api.ErrField
	}
	return api.OK
}

func (m *model) spawn(parts []api.Part) (api.Entity, api.Errno) {
	has := map[int][]int64{}
	for _, part := range parts {
		if bad := m.may(has, part.Kind, false); bad != api.OK {
			return api.Entity{}, bad
		}
		if bad := m.fits(part); bad != api.OK {
			return api.Entity{}, bad
		}
		has[part.Kind] = slices.Clone(part.Values)
	}
	who, bad := m.pool.Take()
	if bad == api.OK {
		m.parts[who] = has
	}
	return who, bad
}

func (m *model) despawn(who api.Entity) api.Errno {
	delete(m.parts, who)
	return m.pool.Give(who)
}

// put is Add, or, of a part that it must have, Set.
func (m *model) put(who api.Entity, part api.Part, must bool) api.Errno {
	if !m.pool.Lives(who) {
		return api.ErrStale
	}
	if bad := m.may(m.parts[who], part.Kind, must); bad != api.OK {
		return bad
	}
	if bad := m.fits(part); bad != api.OK {
		return bad
	}
	m.parts[who][part.Kind] = slices.Clone(part.Values)
	return api.OK
}

func (m *model) remove(who api.Entity, kind int) api.Errno {
	if !m.pool.Lives(who) {
		return api.ErrStale
	}
	if bad := m.may(m.parts[who], kind, true); bad != api.OK {
		return bad
	}
	delete(m.parts[who], kind)
	return api.OK
}

func (m *model) rows() []api.Row {
	var rows []api.Row
	for _, who := range m.pool.All() {
		row := api.Row{E: who}
		for kind := range len(m.kinds) + 1 {
			if values, found := m.parts[who][kind]; found {
				row.Parts = append(row.Parts, p(kind, values...))
			}
		}
		rows = append(rows, row)
	}
	return rows
}

func (m *model) snapshot() []byte {
	gens, free := m.pool.State()
	b := told(wide(gens), wide(free))
	for _, row := range m.rows() {
		b = pack.Put(b, uint64(setOf(row.Parts)))
		for _, part := range row.Parts {
			for _, x := range part.Values {
				b = pack.PutInt(b, x)
			}
		}
	}
	return b
}

func wide(list []int) []int64 {
	var row []int64
	for _, n := range list {
		row = append(row, int64(n))
	}
	return row
}

// read is the model that bytes tell of, and whether they are just what it writes.
func read(kinds []api.Kind, b []byte) (*model, bool) {
	gens, size := pack.GetRow(b, api.MaxColumn)
	free, more := pack.GetRow(b[size:], api.MaxColumn)
	m := newModel(kinds)
	pool, bad := ids.From(api.MaxEntities, narrow(gens), narrow(free))
	if bad != api.OK {
		return nil, false
	}
	m.pool = pool
	rest := b[size+more:]
	for _, who := range pool.All() {
		set, size := pack.Get(rest)
		rest = rest[size:]
		m.parts[who] = map[int][]int64{}
		for i, kind := range kinds {
			if set>>(i+1)&1 == 0 {
				continue
			}
			m.parts[who][i+1] = nil
			for range kind.Fields {
				x, size := pack.GetInt(rest)
				rest = rest[size:]
				m.parts[who][i+1] = append(m.parts[who][i+1], x)
			}
		}
	}
	return m, bytes.Equal(m.snapshot(), b)
}

func narrow(row []int64) []int {
	var list []int
	for _, n := range row {
		list = append(list, int(min(max(n, -1), api.MaxGen+2)))
	}
	return list
}

// same holds a world against its model: all that can be asked without changing it; who ever lived may live no more.
func same(t *testing.T, w *world.World, m *model, ever []api.Entity) {
	t.Helper()
	wantWorld(t, w, m.rows()...)
	wantSnapshot(t, w, m.snapshot())
	for _, who := range ever {
		row, bad := w.Row(who)
		if lives := m.pool.Lives(who); lives != w.Lives(who) || lives != (bad == api.OK) || !lives && (bad != api.ErrStale || row.Parts != nil || row.E != api.Entity{}) {
			t.Errorf("W4: Lives(%v): %v; Row: %v, %v", who, w.Lives(who), row, bad)
		}
	}
	if t.Failed() {
		t.FailNow()
	}
}

// call is one of the calls that change a world.
type call struct {
	op    int // 0 Spawn, 1 Despawn, 2 Add, 3 Remove, 4 Set
	who   api.Entity
	parts []api.Part // one, if it is not Spawn
}

func (c call) of(w *world.World) (api.Entity, api.Errno) {
	switch c.op {
	case 0:
		return w.Spawn(c.parts)
	case 1:
		return c.who, w.Despawn(c.who)
	case 2:
		return c.who, w.Add(c.who, c.parts[0])
	case 3:
		return c.who, w.Remove(c.who, c.parts[0].Kind)
	}
	return c.who, w.Set(c.who, c.parts[0])
}

func (c call) ofModel(m *model) (api.Entity, api.Errno) {
	switch c.op {
	case 0:
		return m.spawn(c.parts)
	case 1:
		return c.who, m.despawn(c.who)
	case 2:
		return c.who, m.put(c.who, c.parts[0], false)
	case 3:
		return c.who, m.remove(c.who, c.parts[0].Kind)
	}
	return c.who, m.put(c.who, c.parts[0], true)
}

// both makes a call of a world and of its model; what was handed in is written over then. It tells who came, or was meant.
func both(t *testing.T, w *world.World, m *model, c call) api.Entity {
	t.Helper()
	who, bad := c.of(w)
	if want, wantBad := c.ofModel(m); who != want || bad != wantBad {
		t.Fatalf("W2, W3: call %d of %v, %v: %v, %v, want %v, %v", c.op, c.who, c.parts, who, bad, want, wantBad)
	}
	spoilParts(c.parts)
	return who
}

func anyKinds(x *rand.Rand) []api.Kind {
	kinds := most()[:1+x.Intn(api.MaxKinds)]
	for i := range kinds {
		kinds[i].Fields = kinds[i].Fields[:x.Intn(api.MaxFields+1)]
	}
	return kinds
}

// anyPart is mostly one that may stand.
func anyPart(x *rand.Rand, kinds []api.Kind) api.Part {
	part := p(1 + x.Intn(len(kinds)))
	count := len(kinds[part.Kind-1].Fields)
	switch x.Intn(20) {
	case 0:
		part.Kind = x.Intn(len(kinds)+4) - 1
	case 1:
		count = x.Intn(api.MaxFields + 2)
	}
	for range count {
		part.Values = append(part.Values, int64(x.Uint64())>>x.Intn(64))
	}
	return part
}

// anyCall is mostly of one that lives; now and then it is one that is refused.
func anyCall(x *rand.Rand, m *model, ever []api.Entity) call {
	c := call{op: x.Intn(5), parts: []api.Part{anyPart(x, m.kinds)}}
	if c.op == 0 {
		c.parts = nil
		for range x.Intn(len(m.kinds) + 1) {
			part := anyPart(x, m.kinds)
			twice := slices.ContainsFunc(c.parts, func(other api.Part) bool { return other.Kind == part.Kind })
			if !twice || x.Intn(8) == 0 {
				c.parts = append(c.parts, part)
			}
		}
		return c
	}
	if all := m.pool.All(); len(all) > 0 && x.Intn(8) > 0 {
		c.who = all[x.Intn(len(all))]
	} else if len(ever) > 0 {
		c.who = ever[x.Intn(len(ever))]
	}
	return c
}

// again is a world that must answer as w does: w itself, a clone of it, or one that is read from its Snapshot.
func again(t *testing.T, w *world.World, how int) *world.World {
	t.Helper()
	switch how {
	case 0:
		return w.Clone()
	case 1:
		x, bad := world.Load(w.Kinds(), w.Snapshot())
		if bad != api.OK {
			t.Fatalf("W6: Load of a Snapshot: %v", bad)
		}
		return x
	}
	return w
}

// TestAsTheWordsSay: W1 to W7, whatever is called one behind the other.
func TestAsTheWordsSay(t *testing.T) {
	x := rand.New(rand.NewSource(10))
	for range 60 {
		m := newModel(anyKinds(x))
		w := fresh(t, m.kinds)
		var ever []api.Entity
		for range 60 {
			ever = append(ever, both(t, w, m, anyCall(x, m, ever)))
			w = again(t, w, x.Intn(8))
			same(t, w, m, ever)
		}
	}
}

// TestAlikeForEver: worlds with the same Snapshot answer alike to all that comes: a world, its clone, and one that was read.
func TestAlikeForEver(t *testing.T) {
	x := rand.New(rand.NewSource(11))
	for range 40 {
		m := newModel(anyKinds(x))
		w := fresh(t, m.kinds)
		var ever []api.Entity
		for range x.Intn(60) {
			ever = append(ever, both(t, w, m, anyCall(x, m, ever)))
		}
		clone, loaded := again(t, w, 0), again(t, w, 1)
		for range 40 {
			c := anyCall(x, m, ever)
			want, wantBad := c.of(w)
			for _, other := range []*world.World{clone, loaded} {
				if who, bad := c.of(other); who != want || bad != wantBad {
					t.Fatalf("call %d of %v: %v, %v, but of a world with the same Snapshot %v, %v", c.op, c.who, want, wantBad, who, bad)
				}
			}
			c.ofModel(m)
			ever = append(ever, want)
			same(t, w, m, ever)
			same(t, clone, m, ever)
			same(t, loaded, m, ever)
		}
	}
}

// TestClonesGoTheirWays: W7, a clone and what it was made of, each by calls of its own.
func TestClonesGoTheirWays(t *testing.T) {
	x := rand.New(rand.NewSource(12))
	for range 40 {
		m := newModel(anyKinds(x))
		w := fresh(t, m.kinds)
		var ever []api.Entity
		for range x.Intn(40) {
			ever = append(ever, both(t, w, m, anyCall(x, m, ever)))
		}
		c := w.Clone()
		cm, _ := read(m.kinds, m.snapshot())
		for range 40 {
			if x.Intn(2) == 0 {
				ever = append(ever, both(t, w, m, anyCall(x, m, ever)))
			} else {
				ever = append(ever, both(t, c, cm, anyCall(x, cm, ever)))
			}
			same(t, w, m, ever)
			same(t, c, cm, ever)
		}
	}
}

// TestNearlyFull: W2, a world that goes up to MaxEntities entities, some of which come and go.
func TestNearlyFull(t *testing.T) {
	x := rand.New(rand.NewSource(13))
	m := newModel(three())
	w := fresh(t, m.kinds)
	var ever []api.Entity
	for range 3000 {
		c := anyCall(x, m, ever)
		if x.Intn(2) == 0 {
			c = call{op: 0, parts: full(three(), 5)[x.Intn(3):]}
		}
		ever = append(ever, both(t, w, m, c))
	}
	same(t, w, m, ever)
	if len(m.pool.All()) < api.MaxEntities*9/10 {
		t.Errorf("only %d live", len(m.pool.All()))
	}
}

// wantRead holds what Load says to bytes against what the model says.
func wantRead(t *testing.T, kinds []api.Kind, b []byte) {
	t.Helper()
	was := slices.Clone(b)
	w, bad := world.Load(kinds, b)
	m, may := read(kinds, b)
	if may != (bad == api.OK) || may != (w != nil) || !may && bad != api.ErrWorld {
		t.Fatalf("W6: Load(%x): %v, but it is a world's: %v", b, bad, may)
	}
	if !bytes.Equal(b, was) {
		t.Fatalf("P3: Load writes into the bytes: %x, want %x", b, was)
	}
	if may {
		same(t, w, m, nil)
	}
}

// TestLoadOfSpoiltBytes: W6, what a world wrote, with bytes turned, left out, put in, or cut off.
func TestLoadOfSpoiltBytes(t *testing.T) {
	x := rand.New(rand.NewSource(14))
	for range 300 {
		m := newModel(anyKinds(x))
		var ever []api.Entity
		for range x.Intn(12) {
			c := anyCall(x, m, ever)
			who, _ := c.ofModel(m)
			ever = append(ever, who)
		}
		whole := m.snapshot()
		wantRead(t, m.kinds, whole)
		for range 40 {
			b := slices.Clone(whole)
			place := x.Intn(len(b))
			switch x.Intn(4) {
			case 0:
				b[place] ^= 1 << x.Intn(8)
			case 1:
				b = slices.Delete(b, place, place+1)
			case 2:
				b = slices.Insert(b, place, byte(x.Intn(256)))
			default:
				b = b[:place]
			}
			wantRead(t, m.kinds, b)
		}
	}
}

// FuzzLoad: P1 and W6, whatever is handed in, Load ends, and takes just what Snapshot writes.
func FuzzLoad(f *testing.F) {
	f.Add([]byte{2, 0, 2, 2, 1, 0, 0, 8})
	f.Add([]byte{2, 0, 4, 2, 0, 0x04, 0x80, 0x01, 0x0e, 0xd8, 0x04, 0x0e, 0x01})
	f.Add([]byte{3, 0, 0x82, 0x89, 0x7a, 2, 0x80, 0x89, 0x7a, 0, 8, 0})
	f.Fuzz(func(t *testing.T, b []byte) {
		wantRead(t, three(), b)
		wantRead(t, most(), b)
	})
}

// FuzzCalls: P1, every call ends and none panics, and all do as the words say; six bytes are a call.
func FuzzCalls(f *testing.F) {
	f.Add([]byte{0, 0, 0, 3, 1, 2, 0, 0, 0, 0, 0, 0, 2, 1, 1, 3, 0, 0, 2, 1, 1, 3, 0, 0, 1, 0, 1, 0, 0, 0, 5, 0, 0, 0, 0, 0})
	f.Add([]byte{0, 0, 0, 7, 1, 2, 4, 0, 1, 1, 2, 9, 3, 0, 1, 2, 0, 0, 6, 0, 0, 0, 0, 0, 0, 0, 0, 1, 5, 5})
	f.Fuzz(func(t *testing.T, calls []byte) {
		m := newModel(three())
		w := fresh(t, m.kinds)
		var ever []api.Entity
		for ; len(calls) >= 6; calls = calls[6:] {
			c := call{op: int(calls[0] % 8), who: e(int(int8(calls[1])), int(int8(calls[2])))}
			if c.op >= 5 {
				w = again(t, w, c.op-5)
				continue
			}
			values := make([]int64, calls[4]%6)
			spoil(values, int64(int8(calls[5])))
			c.parts = []api.Part{p(int(int8(calls[3])), values...)}
			if c.op == 0 {
				c.parts = full(three(), int64(calls[5]))
				c.parts = slices.DeleteFunc(c.parts, func(part api.Part) bool { return calls[3]>>part.Kind&1 == 0 })
				if calls[4] > 200 {
					c.parts = append(c.parts, p(int(calls[4])-202, values...))
				}
			}
			ever = append(ever, both(t, w, m, c))
		}
		same(t, w, m, ever)
	})
}
