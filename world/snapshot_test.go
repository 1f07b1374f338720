package world_test

import (
	"bytes"
	"math"
	"slices"
	"testing"

	"hindcast/api"
	"hindcast/pack"
	"hindcast/world"
)

// told are the bytes of a world whose pool tells this; behind it stands the rest.
func told(gens, free []int64, rest ...byte) []byte {
	b := pack.PutRow(nil, gens)
	return append(pack.PutRow(b, free), rest...)
}

// loaded is the world of these bytes, of the chapter's kinds.
func loaded(t *testing.T, b []byte) *world.World {
	t.Helper()
	w, bad := world.Load(three(), b)
	if bad != api.OK || w == nil {
		t.Fatalf("W6: Load(%x): %v", b, bad)
	}
	wantSnapshot(t, w, b)
	return w
}

func wantSnapshot(t *testing.T, w *world.World, want []byte) {
	t.Helper()
	if b := w.Snapshot(); !bytes.Equal(b, want) {
		t.Errorf("W6: Snapshot: %x, want %x", b, want)
	}
}

func wantNoLoad(t *testing.T, why string, kinds []api.Kind, b []byte) {
	t.Helper()
	if w, bad := world.Load(kinds, b); w != nil || bad != api.ErrWorld {
		t.Errorf("W6: Load(%x), %s: %v, want %v", b, why, bad, api.ErrWorld)
	}
}

// TestSnapshotBytes: W6, byte by byte.
func TestSnapshotBytes(t *testing.T) {
	w := fresh(t, three())
	wantSnapshot(t, w, []byte{0, 0})
	wantSpawn(t, w, e(0, 1))
	wantSnapshot(t, w, []byte{1, 0, 2, 0, 0})
	wantSpawn(t, w, e(1, 1), p(3), p(2, -1), p(1, 300, 7))
	wantSnapshot(t, w, []byte{2, 0, 2, 2, 0, 0, 0x0e, 0xd8, 0x04, 0x0e, 0x01})
	wantDespawn(t, w, e(0, 1))
	wantSnapshot(t, w, []byte{2, 0, 2, 2, 1, 0, 0, 0x0e, 0xd8, 0x04, 0x0e, 0x01})
	wantSpawn(t, w, e(0, 2), p(2, 64))
	wantSnapshot(t, w, []byte{2, 0, 4, 2, 0, 0x04, 0x80, 0x01, 0x0e, 0xd8, 0x04, 0x0e, 0x01})
	wantRemove(t, w, e(1, 1), 1, api.OK)
	wantSnapshot(t, w, []byte{2, 0, 4, 2, 0, 0x04, 0x80, 0x01, 0x0c, 0x01})
}

// TestSnapshotOfManyKinds: W6, a set whose number has two bytes, and numbers of ten.
func TestSnapshotOfManyKinds(t *testing.T) {
	w := fresh(t, most())
	wantSpawn(t, w, e(0, 1), p(12, math.MinInt64, math.MaxInt64, 0, -1), p(1, 1, 2, 3, 4))
	want := []byte{1, 0, 2, 0, 0x82, 0x20, 2, 4, 6, 8}
	want = append(want, 0xff, 0xff, 0xff, 0xff, 0xff, 0xff, 0xff, 0xff, 0xff, 0x01)
	want = append(want, 0xfe, 0xff, 0xff, 0xff, 0xff, 0xff, 0xff, 0xff, 0xff, 0x01, 0, 1)
	wantSnapshot(t, w, want)
	x, bad := world.Load(most(), want)
	if bad != api.OK {
		t.Fatalf("W6: Load(%x): %v", want, bad)
	}
	wantWorld(t, x, r(0, 1, p(1, 1, 2, 3, 4), p(12, math.MinInt64, math.MaxInt64, 0, -1)))
	for n := range want {
		wantNoLoad(t, "too few bytes", most(), want[:n])
	}
}

// TestLoad: W6, the world that is read is the one that was written, and goes on as that does.
func TestLoad(t *testing.T) {
	wantWorld(t, loaded(t, []byte{0, 0}))
	w := made(t, r(0, 1, p(1, 1, 2)), r(1, 1), r(2, 1, p(2, 5), p(3)), r(3, 1, p(3)), r(4, 1, p(1, -3, 9), p(2, 0), p(3)))
	wantDespawn(t, w, e(3, 1))
	wantDespawn(t, w, e(1, 1))
	x := loaded(t, w.Snapshot())
	rows := []api.Row{r(0, 1, p(1, 1, 2)), r(2, 1, p(2, 5), p(3)), r(4, 1, p(1, -3, 9), p(2, 0), p(3))}
	wantWorld(t, x, rows...)
	for _, y := range []*world.World{w, x} {
		wantSpawn(t, y, e(3, 2))
		wantSpawn(t, y, e(1, 2), p(3))
		wantSpawn(t, y, e(5, 1))
		wantAdd(t, y, e(0, 1), p(3), api.OK)
		wantDespawn(t, y, e(2, 1))
	}
	wantSnapshot(t, x, w.Snapshot())
}

// TestLoadOfAFullWorld: W6, all there may be.
func TestLoadOfAFullWorld(t *testing.T) {
	w := fresh(t, most())
	var want []api.Row
	for i := range api.MaxEntities {
		want = append(want, r(i, 1, full(most(), math.MaxInt64-int64(i)*7-48)...))
		wantSpawn(t, w, want[i].E, want[i].Parts...)
	}
	b := w.Snapshot()
	x, bad := world.Load(most(), b)
	if bad != api.OK {
		t.Fatalf("W6: Load of a full world: %v", bad)
	}
	wantWorld(t, x, want...)
	wantSnapshot(t, x, b)
	wantNoSpawn(t, x, api.ErrFull)
	wantNoLoad(t, "without its last byte", most(), b[:len(b)-1])
	wantNoLoad(t, "with one byte more", most(), append(b, 0))
}

// TestLoadByOtherKinds: W6, kinds are not written: those with other names do, if they have as many fields.
func TestLoadByOtherKinds(t *testing.T) {
	b := made(t, r(0, 1, p(1, 1, 2)), r(1, 1, p(2, 3))).Snapshot()
	others := []api.Kind{{Name: "A", Fields: []string{"p", "q"}}, {Name: "B", Fields: []string{"r"}}}
	w, bad := world.Load(others, b)
	if bad != api.OK {
		t.Fatalf("W6: Load by other kinds: %v", bad)
	}
	wantWorld(t, w, r(0, 1, p(1, 1, 2)), r(1, 1, p(2, 3)))
	if kinds := w.Kinds(); !slices.EqualFunc(kinds, others, sameKind) {
		t.Errorf("W1: Kinds: %v, want %v", kinds, others)
	}
	wantNoLoad(t, "by fewer kinds", others[:1], b)
	others[1].Fields = nil
	wantNoLoad(t, "by fewer fields", others, b)
	others[1].Fields = []string{"r", "s"}
	wantNoLoad(t, "by more fields", others, b)
}

// TestLoadOfWrongBytes: W6, bytes too few, or left over, of each length and kind.
func TestLoadOfWrongBytes(t *testing.T) {
	w := made(t, r(0, 1, p(1, 1, 2)), r(1, 1), r(2, 1, p(2, 500), p(3)))
	wantDespawn(t, w, e(1, 1))
	for _, b := range [][]byte{{0, 0}, w.Snapshot(), made(t, r(0, 1)).Snapshot(), made(t, r(0, 1, p(3))).Snapshot()} {
		loaded(t, b)
		for n := range b {
			wantNoLoad(t, "too few bytes", three(), b[:n])
		}
		for c := range 256 {
			wantNoLoad(t, "a byte left over", three(), append(slices.Clone(b), byte(c)))
		}
		wantNoLoad(t, "bytes left over", three(), append(slices.Clone(b), b...))
	}
	wantNoLoad(t, "nil", three(), nil)
}

// TestLoadOfWrongSets: W6, a set with the bit 0, or one for no kind, or written in more bytes than it needs.
func TestLoadOfWrongSets(t *testing.T) {
	one := []int64{1}
	for set := range 1 << 14 {
		b := pack.Put(told(one, nil), uint64(set))
		enough := append(b, make([]byte, 3)...)
		if set&^0x0e != 0 {
			wantNoLoad(t, "a set that may not be", three(), b)
			wantNoLoad(t, "a set that may not be", three(), enough)
			continue
		}
		values := []int{0, 2, 1, 3}[set>>1&3]
		loaded(t, enough[:len(b)+values])
	}
	for bit := range 64 {
		for _, set := range []uint64{1 << bit, 1<<bit | 2, 1<<bit | 8} {
			if set&^0x0e != 0 {
				wantNoLoad(t, "a set that may not be", three(), append(pack.Put(told(one, nil), set), 0, 0))
			}
			if set&^0x1ffe != 0 {
				wantNoLoad(t, "a set that may not be", most(), append(pack.Put(told(one, nil), set), make([]byte, 48)...))
			}
		}
	}
	wantNoLoad(t, "a set that is not the shortest", three(), told(one, nil, 0x88, 0x00))
	wantNoLoad(t, "a set that is not the shortest", three(), told(one, nil, 0x80, 0x00))
	wantNoLoad(t, "a set without an end", three(), told(one, nil, 0x88))
	wantNoLoad(t, "a set of too many bytes", three(), told(one, nil, 0x88, 0x80, 0x80, 0x80, 0x80, 0x80, 0x80, 0x80, 0x80, 0x80, 0x00))
}

// TestLoadOfWrongValues: W6, numbers that are not the shortest, have no end, or too many bits.
func TestLoadOfWrongValues(t *testing.T) {
	one := []int64{1}
	loaded(t, told(one, nil, 4, 0x80, 0x01))
	wantNoLoad(t, "a number that is not the shortest", three(), told(one, nil, 4, 0x80, 0x00))
	wantNoLoad(t, "a number that is not the shortest", three(), told(one, nil, 2, 0x05, 0x85, 0x00))
	wantNoLoad(t, "a number that is not the shortest", three(), told(one, nil, 2, 0x85, 0x00, 0x05))
	wantNoLoad(t, "a number without an end", three(), told(one, nil, 4, 0x80))
	wantNoLoad(t, "a number of too many bits", three(), told(one, nil, 4, 0xff, 0xff, 0xff, 0xff, 0xff, 0xff, 0xff, 0xff, 0xff, 0x02))
	two := []int64{1, 1}
	loaded(t, told(two, nil, 4, 6, 4, 8))
	wantNoLoad(t, "the first one's number is wrong", three(), told(two, nil, 4, 0x80, 0x00, 4, 8))
	wantNoLoad(t, "the last one's number is wrong", three(), told(two, nil, 4, 6, 4, 0x80, 0x00))
	wantNoLoad(t, "the first one's set is wrong", three(), told(two, nil, 1, 4, 8))
	wantNoLoad(t, "the last one's set is wrong", three(), told(two, nil, 4, 6, 16))
}

// TestLoadOfWrongPools: W6, what ids.From refuses.
func TestLoadOfWrongPools(t *testing.T) {
	for _, c := range []struct {
		why        string
		gens, free []int64
	}{
		{"a generation 0", []int64{0}, nil},
		{"a generation 0 behind another one", []int64{1, 0}, nil},
		{"a generation below 0", []int64{-1}, nil},
		{"a generation above all", []int64{api.MaxGen + 2}, nil},
		{"the greatest generation", []int64{math.MaxInt64}, nil},
		{"the least generation", []int64{math.MinInt64}, nil},
		{"a generation that is 1 in 32 bits", []int64{1<<32 + 1}, nil},
		{"a free number without a generation", nil, []int64{0}},
		{"a free number without a generation", []int64{1}, []int64{1}},
		{"a free number below 0", []int64{1}, []int64{-1}},
		{"a free number that is 0 in 32 bits", []int64{1}, []int64{1 << 32}},
		{"the greatest free number", []int64{1}, []int64{math.MaxInt64}},
		{"the least free number", []int64{1}, []int64{math.MinInt64}},
		{"a free number twice", []int64{1, 1}, []int64{1, 1}},
		{"a free number whose last generation went", []int64{api.MaxGen + 1}, []int64{0}},
		{"a free number with the last generation", []int64{api.MaxGen}, []int64{0}},
		{"more generations than entities", slices.Repeat([]int64{1}, api.MaxEntities+1), nil},
		{"more free numbers than entities", slices.Repeat([]int64{1}, api.MaxEntities), slices.Repeat([]int64{0}, api.MaxEntities+1)},
	} {
		for count := range 3 {
			wantNoLoad(t, c.why, three(), told(c.gens, c.free, make([]byte, count)...))
		}
	}
	loaded(t, told(slices.Repeat([]int64{1}, api.MaxEntities), nil, make([]byte, api.MaxEntities)...))
	many := slices.Repeat([]int64{1}, api.MaxEntities+1)
	wantNoLoad(t, "more generations than entities", three(), told(many, nil, make([]byte, len(many))...))
}

// TestLoadOfWrongRows: W6, what pack refuses: rows in another form, and none.
func TestLoadOfWrongRows(t *testing.T) {
	loaded(t, []byte{2, 0, 2, 2, 1, 0, 0, 8})
	for _, b := range [][]byte{
		{2, 1, 2, 0, 1, 0, 0, 8},
		{2, 2, 1, 2, 2, 1, 0, 0, 8},
		{2, 3, 2, 2, 1, 0, 0, 8},
		{2, 0, 2, 2, 1, 1, 0, 8},
		{2, 0, 2, 2, 1, 2, 1, 1, 0, 8},
		{0x82, 0, 0, 2, 2, 1, 0, 0, 8},
		{2, 0, 2, 2, 0x81, 0, 0, 0, 8},
		{2, 0, 0x82, 0, 2, 1, 0, 0, 8},
		{2, 0, 2, 2, 1, 0, 0x80, 0, 8},
		{0xff, 0xff, 0xff, 0xff, 0xff, 0xff, 0xff, 0xff, 0xff, 0x01, 2, 1, 2, 2, 0},
		{0xff, 0xff, 0xff, 0xff, 0x0f, 0, 2},
		{0, 0xff, 0xff, 0xff, 0xff, 0xff, 0xff, 0xff, 0xff, 0xff, 0x01, 0, 2},
	} {
		wantNoLoad(t, "a row that PutRow does not write", three(), b)
	}
}

// TestWornOut: W2 and W6, a number whose last generation went is never given out again.
func TestWornOut(t *testing.T) {
	w := loaded(t, told([]int64{api.MaxGen, 1, api.MaxGen - 1}, []int64{2}, 8, 4, 6))
	wantWorld(t, w, r(0, api.MaxGen, p(3)), r(1, 1, p(2, 3)))
	wantDespawn(t, w, e(0, api.MaxGen))
	wantSnapshot(t, w, told([]int64{api.MaxGen + 1, 1, api.MaxGen - 1}, []int64{2}, 4, 6))
	wantStale(t, w, e(0, api.MaxGen))
	wantStale(t, w, e(0, api.MaxGen+1))
	w = loaded(t, w.Snapshot())
	wantWorld(t, w, r(1, 1, p(2, 3)))
	wantSpawn(t, w, e(2, api.MaxGen))
	wantSpawn(t, w, e(3, 1))
	wantDespawn(t, w, e(2, api.MaxGen))
	wantSnapshot(t, w, told([]int64{api.MaxGen + 1, 1, api.MaxGen + 1, 1}, nil, 4, 6, 0))
	for index := 4; index < api.MaxEntities; index++ {
		wantSpawn(t, w, e(index, 1))
	}
	wantNoSpawn(t, w, api.ErrFull)
	if rows := w.Rows(); len(rows) != api.MaxEntities-2 {
		t.Errorf("W5: %d live, and two numbers are worn out", len(rows))
	}
	wantNoSpawn(t, loaded(t, told(slices.Repeat([]int64{api.MaxGen + 1}, api.MaxEntities), nil)), api.ErrFull)
}

// TestOneSnapshot: what follows, worlds in which parts and entities came and went in other orders, with the same in the end, are written as the same bytes.
func TestOneSnapshot(t *testing.T) {
	ways := []func(w *world.World){
		func(w *world.World) {
			wantSpawn(t, w, e(0, 1), p(1, 1, 2), p(2, 3), p(3))
			wantSpawn(t, w, e(1, 1), p(2, 4))
			wantSpawn(t, w, e(2, 1))
			wantDespawn(t, w, e(1, 1))
			wantSpawn(t, w, e(1, 2), p(2, 5))
		},
		func(w *world.World) {
			wantSpawn(t, w, e(0, 1))
			wantSpawn(t, w, e(1, 1), p(1, 7, 7), p(2, 3), p(3))
			wantDespawn(t, w, e(1, 1))
			wantSpawn(t, w, e(1, 2), p(3))
			wantSpawn(t, w, e(2, 1), p(2, 5))
			wantAdd(t, w, e(0, 1), p(3), api.OK)
			wantAdd(t, w, e(1, 2), p(2, 9), api.OK)
			wantAdd(t, w, e(0, 1), p(1, 1, 1), api.OK)
			wantRemove(t, w, e(2, 1), 2, api.OK)
			wantSet(t, w, e(0, 1), p(1, 1, 2), api.OK)
			wantRemove(t, w, e(1, 2), 3, api.OK)
			wantAdd(t, w, e(0, 1), p(2, 3), api.OK)
			wantSet(t, w, e(1, 2), p(2, 5), api.OK)
		},
		func(w *world.World) {
			wantSpawn(t, w, e(0, 1), p(3), p(2, 3), p(1, 1, 2))
			wantSpawn(t, w, e(1, 1))
			wantDespawn(t, w, e(1, 1))
			wantSpawn(t, w, e(1, 2))
			wantSpawn(t, w, e(2, 1), p(3))
			wantAdd(t, w, e(1, 2), p(2, 5), api.OK)
			wantRemove(t, w, e(2, 1), 3, api.OK)
			wantRemove(t, w, e(0, 1), 2, api.OK)
			wantAdd(t, w, e(0, 1), p(2, 3), api.OK)
		},
	}
	want := told([]int64{1, 2, 1}, nil, 0x0e, 2, 4, 6, 4, 10, 0)
	for i, way := range ways {
		w := fresh(t, three())
		way(w)
		if b := w.Snapshot(); !bytes.Equal(b, want) {
			t.Errorf("W6: Snapshot by way %d: %x, want %x", i, b, want)
		}
		wantWorld(t, w, r(0, 1, p(1, 1, 2), p(2, 3), p(3)), r(1, 2, p(2, 5)), r(2, 1))
	}
}

// TestTheOrderOfGoing: W6, who comes next is part of a world.
func TestTheOrderOfGoing(t *testing.T) {
	one, two := made(t, r(0, 1), r(1, 1)), made(t, r(0, 1), r(1, 1))
	wantDespawn(t, one, e(0, 1))
	wantDespawn(t, one, e(1, 1))
	wantDespawn(t, two, e(1, 1))
	wantDespawn(t, two, e(0, 1))
	wantSnapshot(t, one, told([]int64{1, 1}, []int64{0, 1}))
	wantSnapshot(t, two, told([]int64{1, 1}, []int64{1, 0}))
	wantSpawn(t, loaded(t, one.Snapshot()), e(0, 2))
	wantSpawn(t, loaded(t, two.Snapshot()), e(1, 2))
}
