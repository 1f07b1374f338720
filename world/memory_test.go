package world_test

import (
	"bytes"
	"slices"
	"sync"
	"testing"

	"hindcast/api"
	"hindcast/world"
)

// room is a list within a greater one, and all of that.
func room[T any](junk T, list ...T) (in, around []T) {
	around = slices.Repeat([]T{junk}, len(list)+8)
	copy(around[2:], list)
	return around[2 : 2+len(list)], around
}

// roomy are kinds, and what stands around their lists: words and kinds that may not be.
func roomy(kinds []api.Kind) (in, around []api.Kind, fields [][]string) {
	in, around = room(api.Kind{Name: "?"}, kinds...)
	for i := range in {
		list, all := room("?", in[i].Fields...)
		in[i].Fields = list
		fields = append(fields, all)
	}
	return in, around, fields
}

// spoil writes into all of a list, and into the room behind it.
func spoil[T any](list []T, junk T) {
	list = list[:cap(list)]
	for i := range list {
		list[i] = junk
	}
}

func spoilKinds(kinds []api.Kind) {
	for _, kind := range kinds {
		spoil(kind.Fields, "!")
	}
	spoil(kinds, api.Kind{Name: "!"})
}

func spoilParts(parts []api.Part) {
	for _, part := range parts {
		spoil(part.Values, -99)
	}
	spoil(parts, p(-99, -99))
}

func spoilRows(rows []api.Row) {
	for _, row := range rows {
		spoilParts(row.Parts)
	}
	spoil(rows, r(-99, -99))
}

// TestKindsAreNotKept: P3 of W1 and W6, what is handed to New and Load stays as it is, and its owner may write over it.
func TestKindsAreNotKept(t *testing.T) {
	written := made(t, r(0, 1, p(1, 1, 2))).Snapshot()
	for _, open := range []func(kinds []api.Kind) (*world.World, api.Errno){
		world.New,
		func(kinds []api.Kind) (*world.World, api.Errno) { return world.Load(kinds, written) },
	} {
		kinds, around, fields := roomy(three())
		_, wasAround, wasFields := roomy(three())
		w, bad := open(kinds)
		if bad != api.OK {
			t.Fatalf("W1: kinds with other lists around them: %v", bad)
		}
		w.Spawn([]api.Part{p(3), p(1, 5, 6)})
		if !slices.EqualFunc(around, wasAround, sameKind) || !slices.EqualFunc(fields, wasFields, slices.Equal) {
			t.Errorf("P3: kinds are written into: %v, %v", around, fields)
		}
		spoilKinds(kinds)
		if got := w.Kinds(); !slices.EqualFunc(got, three(), sameKind) {
			t.Errorf("P3: kinds are kept: %v", got)
		}
	}
}

// TestKindsAreNewMemory: P3, what Kinds answered is the caller's, and no two answers share anything.
func TestKindsAreNewMemory(t *testing.T) {
	w := made(t, r(0, 1, p(1, 1, 2)))
	c := w.Clone()
	one, two, other := w.Kinds(), w.Kinds(), c.Kinds()
	for i := range one {
		_ = append(one[i].Fields, "more")
	}
	_ = append(one, api.Kind{Name: "more"})
	spoilKinds(one)
	for _, kinds := range [][]api.Kind{two, other, w.Kinds(), c.Kinds()} {
		if !slices.EqualFunc(kinds, three(), sameKind) {
			t.Errorf("P3: who writes into what Kinds answered writes into %v", kinds)
		}
	}
	wantSpawn(t, w, e(1, 1), p(2, 7), p(3))
	wantNoSpawn(t, w, api.ErrField, p(3, 1))
	wantWorld(t, w, r(0, 1, p(1, 1, 2)), r(1, 1, p(2, 7), p(3)))
	wantWorld(t, c, r(0, 1, p(1, 1, 2)))
}

// TestSpawnWritesIntoNothing: P3, the parts stay as they are, in their order, and what stands around them.
func TestSpawnWritesIntoNothing(t *testing.T) {
	high, aroundHigh := room[int64](-77, 7)
	low, aroundLow := room[int64](-77, 1, 2)
	parts, around := room(p(-77, -77), p(3), p(2, high...), p(1, low...))
	was := slices.Clone(around)
	w := fresh(t, three())
	wantSpawn(t, w, e(0, 1), parts...)
	wantSpawn(t, w, e(1, 1), parts...)
	wantAdd(t, w, e(1, 1), parts[0], api.ErrHas)
	wantRemove(t, w, e(1, 1), 3, api.OK)
	wantAdd(t, w, e(1, 1), parts[0], api.OK)
	wantSet(t, w, e(0, 1), p(1, 50, 60), api.OK)
	wantDespawn(t, w, e(0, 1))
	wantSpawn(t, w, e(0, 2), p(1, 80, 90))
	if !slices.EqualFunc(around, was, samePart) {
		t.Errorf("P3: parts are written into: %v, want %v", around, was)
	}
	if !slices.Equal(aroundHigh, []int64{-77, -77, 7, -77, -77, -77, -77, -77, -77}) || !slices.Equal(aroundLow, []int64{-77, -77, 1, 2, -77, -77, -77, -77, -77, -77}) {
		t.Errorf("P3: values are written into: %v, %v", aroundHigh, aroundLow)
	}
	spoilParts(parts)
	wantWorld(t, w, r(0, 2, p(1, 80, 90)), r(1, 1, p(1, 1, 2), p(2, 7), p(3)))
}

// TestValuesAreNotKept: P3 of W2 and W3, whose list it is may write over it; one list may be handed in several times.
func TestValuesAreNotKept(t *testing.T) {
	w := made(t, r(0, 1), r(1, 1), r(2, 1, p(1, 0, 0)))
	values, around := room[int64](-77, 10, 11)
	was := slices.Clone(around)
	wantAdd(t, w, e(0, 1), p(1, values...), api.OK)
	wantAdd(t, w, e(1, 1), p(1, values...), api.OK)
	wantSet(t, w, e(2, 1), p(1, values...), api.OK)
	wantSpawn(t, w, e(3, 1), p(1, values...), p(2, values[0]))
	wantAdd(t, w, e(0, 1), p(2, 5), api.OK)
	wantSet(t, w, e(1, 1), p(1, 20, 21), api.OK)
	wantRemove(t, w, e(3, 1), 2, api.OK)
	if !slices.Equal(around, was) {
		t.Errorf("P3: values are written into: %v, want %v", around, was)
	}
	spoil(values, -99)
	wantWorld(t, w, r(0, 1, p(1, 10, 11), p(2, 5)), r(1, 1, p(1, 20, 21)), r(2, 1, p(1, 10, 11)), r(3, 1, p(1, 10, 11)))
}

// TestGetIsNewMemory: P3, what Get answered is the caller's, and stays as it was.
func TestGetIsNewMemory(t *testing.T) {
	w := made(t, r(0, 1, p(1, 1, 2), p(2, 3)), r(1, 1, p(1, 4, 5), p(2, 6)))
	one, _ := w.Get(e(0, 1), 1)
	two, _ := w.Get(e(0, 1), 1)
	_ = append(one.Values, -98)
	spoil(one.Values, -99)
	wantSet(t, w, e(1, 1), p(1, 40, 50), api.OK)
	wantWorld(t, w, r(0, 1, p(1, 1, 2), p(2, 3)), r(1, 1, p(1, 40, 50), p(2, 6)))
	wantSet(t, w, e(0, 1), p(1, 10, 20), api.OK)
	wantDespawn(t, w, e(0, 1))
	wantSpawn(t, w, e(0, 2), p(1, 7, 7), p(2, 7))
	if !samePart(two, p(1, 1, 2)) {
		t.Errorf("P3: what Get answered has become %v", two)
	}
}

// TestRowsAreNewMemory: P3, what Row and Rows answered is the caller's, with all lists in it, none of which share anything.
func TestRowsAreNewMemory(t *testing.T) {
	want := []api.Row{r(0, 1, p(1, 1, 2), p(2, 3), p(3)), r(1, 1), r(2, 1, p(1, 4, 5), p(2, 6)), r(3, 1, p(1, 7, 8), p(2, 9), p(3))}
	w := made(t, want...)
	var loose []api.Row
	for _, row := range want {
		again, _ := w.Row(row.E)
		loose = append(loose, again)
	}
	all := [][]api.Row{w.Rows(), loose, w.Rows()}
	for place, rows := range all {
		appendToAll(rows)
		for _, others := range all[place:] {
			if !slices.EqualFunc(others, want, sameRow) {
				t.Errorf("P3: who appends to a list of an answer writes into %v", others)
			}
		}
		for i := range rows {
			for j := range rows[i].Parts {
				spoil(rows[i].Parts[j].Values, -99)
				if !slices.EqualFunc(rows[i].Parts[j+1:], want[i].Parts[j+1:], samePart) {
					t.Errorf("P3: who writes into one part writes into %v", rows[i].Parts[j+1:])
				}
			}
			spoilParts(rows[i].Parts)
			if !slices.EqualFunc(rows[i+1:], want[i+1:], sameRow) {
				t.Errorf("P3: who writes into one row writes into %v", rows[i+1:])
			}
		}
		spoilRows(rows)
		wantWorld(t, w, want...)
	}
}

// appendToAll appends to each list of an answer, one by one: to what has no room it writes nothing.
func appendToAll(rows []api.Row) {
	for i := range rows {
		for j := range rows[i].Parts {
			_ = append(rows[i].Parts[j].Values, -98)
		}
		_ = append(rows[i].Parts, p(-98))
	}
	_ = append(rows, r(-98, -98))
}

// TestRowsStayAsTheyWere: P3, what becomes of the world does not show in what was answered.
func TestRowsStayAsTheyWere(t *testing.T) {
	want := []api.Row{r(0, 1, p(1, 1, 2), p(2, 3)), r(1, 1, p(1, 4, 5), p(2, 6))}
	w := made(t, want...)
	rows, shapes, b := w.Rows(), w.Shapes(), w.Snapshot()
	row, _ := w.Row(e(0, 1))
	written := slices.Clone(b)
	wantSet(t, w, e(0, 1), p(1, 10, 20), api.OK)
	wantRemove(t, w, e(1, 1), 1, api.OK)
	wantDespawn(t, w, e(0, 1))
	wantSpawn(t, w, e(0, 2), p(1, 7, 7), p(2, 7))
	if !slices.EqualFunc(rows, want, sameRow) || !sameRow(row, want[0]) || len(shapes) != 1 || shapes[6] != 2 || !bytes.Equal(b, written) {
		t.Errorf("P3: answers have become %v, %v, %v, %x", rows, row, shapes, b)
	}
}

// TestRowsHandedInAgain: P3, what came out of a world may go into it again.
func TestRowsHandedInAgain(t *testing.T) {
	w := made(t, r(0, 1, p(1, 1, 2), p(2, 3)), r(1, 1))
	row, _ := w.Row(e(0, 1))
	wantSpawn(t, w, e(2, 1), row.Parts...)
	wantAdd(t, w, e(1, 1), row.Parts[1], api.OK)
	wantSet(t, w, e(0, 1), row.Parts[0], api.OK)
	spoilParts(row.Parts)
	wantWorld(t, w, r(0, 1, p(1, 1, 2), p(2, 3)), r(1, 1, p(2, 3)), r(2, 1, p(1, 1, 2), p(2, 3)))
}

// TestShapesAreNewMemory: P3, the map that Shapes answered is the caller's.
func TestShapesAreNewMemory(t *testing.T) {
	w := made(t, r(0, 1, p(1, 1, 2)), r(1, 1))
	one, two := w.Shapes(), w.Shapes()
	one[2], one[77] = 55, 1
	delete(one, 0)
	if len(two) != 2 || two[0] != 1 || two[2] != 1 {
		t.Errorf("P3: two answers of Shapes are one: %v", two)
	}
	wantWorld(t, w, r(0, 1, p(1, 1, 2)), r(1, 1))
}

// TestSnapshotIsNewMemory: P3, as long as it may be.
func TestSnapshotIsNewMemory(t *testing.T) {
	w := fresh(t, three())
	for i := range 40 {
		one, two := w.Snapshot(), w.Snapshot()
		was := slices.Clone(two)
		_ = append(one, 0xdd)
		spoil(one, 0xee)
		if !bytes.Equal(two, was) || !bytes.Equal(w.Snapshot(), was) {
			t.Errorf("P3: who writes into a Snapshot writes into another one: %x, want %x", two, was)
		}
		wantSpawn(t, w, e(i, 1), p(1, int64(i), -5), p(3))
	}
}

// TestLoadKeepsNothing: P3, the bytes stay as they are, and their owner may write over them.
func TestLoadKeepsNothing(t *testing.T) {
	rows := []api.Row{r(0, 1, p(1, 1, 2), p(2, 3)), r(1, 1, p(3)), r(2, 1)}
	b, around := room(0xee, made(t, rows...).Snapshot()...)
	was := slices.Clone(around)
	w, bad := world.Load(three(), b)
	if bad != api.OK {
		t.Fatalf("W6: Load: %v", bad)
	}
	wantSet(t, w, e(0, 1), p(1, 8, 9), api.OK)
	wantNoLoad(t, "with one byte more", three(), b[:len(b)+1])
	wantNoLoad(t, "without its last byte", three(), b[:len(b)-1])
	if !bytes.Equal(around, was) {
		t.Errorf("P3: Load writes into the bytes: %x, want %x", around, was)
	}
	spoil(b, 0x11)
	wantWorld(t, w, r(0, 1, p(1, 8, 9), p(2, 3)), rows[1], rows[2])
}

// TestClonesAreApart: W7 and P4, whatever room a world's lists had when it was cloned; a clone of a clone, too.
func TestClonesAreApart(t *testing.T) {
	for count := range 12 {
		w := fresh(t, three())
		var want []api.Row
		for i := range count + 2 {
			want = append(want, r(i, 1, p(1, int64(i), 1), p(2, 5)))
			wantSpawn(t, w, want[i].E, want[i].Parts...)
		}
		wantDespawn(t, w, e(count, 1))
		wantDespawn(t, w, e(count+1, 1))
		want = want[:count]
		c := w.Clone()
		twice := c.Clone()
		wantSpawn(t, w, e(count, 2), p(1, 70, 71), p(2, 72))
		wantSpawn(t, c, e(count, 2), p(1, 80, 81), p(2, 82))
		wantDespawn(t, w, e(count, 2))
		wantSpawn(t, w, e(count+1, 2), p(2, 73))
		wantWorld(t, w, append(slices.Clone(want), r(count+1, 2, p(2, 73)))...)
		wantWorld(t, c, append(slices.Clone(want), r(count, 2, p(1, 80, 81), p(2, 82)))...)
		wantWorld(t, twice, want...)
		wantSpawn(t, twice, e(count, 2))
	}
}

// TestWorldsAreApart: P4, two worlds of the same lists, or of the same bytes, have nothing to do with one another.
func TestWorldsAreApart(t *testing.T) {
	kinds, parts := three(), []api.Part{p(1, 1, 2)}
	one, two := fresh(t, kinds), fresh(t, kinds)
	wantSpawn(t, one, e(0, 1), parts...)
	wantSpawn(t, two, e(0, 1), parts...)
	b := one.Snapshot()
	x, y := loaded(t, b), loaded(t, b)
	wantSet(t, one, e(0, 1), p(1, 5, 6), api.OK)
	wantDespawn(t, x, e(0, 1))
	wantWorld(t, two, r(0, 1, p(1, 1, 2)))
	wantWorld(t, y, r(0, 1, p(1, 1, 2)))
	wantWorld(t, one, r(0, 1, p(1, 5, 6)))
	wantWorld(t, x)
}

// TestSideBySide: P4, worlds on goroutines of their own answer as they do alone, made of the same lists or of one another; and one that is only asked may be asked from all.
func TestSideBySide(t *testing.T) {
	kinds, parts := three(), []api.Part{p(2, 3), p(1, 1, 2)}
	whole := fresh(t, kinds)
	wantSpawn(t, whole, e(0, 1), parts...)
	wantSpawn(t, whole, e(1, 1), parts...)
	written := whole.Snapshot()
	want := []api.Row{r(0, 2, p(1, 1, 2), p(2, 3)), r(1, 1, p(1, 8, 9), p(3))}
	var group sync.WaitGroup
	for range 8 {
		group.Go(func() {
			for range 100 {
				made, _ := world.New(kinds)
				made.Spawn(parts)
				made.Spawn(parts)
				read, _ := world.Load(kinds, written)
				for _, w := range []*world.World{made, read, whole.Clone()} {
					w.Despawn(e(0, 1))
					w.Set(e(1, 1), p(1, 8, 9))
					w.Remove(e(1, 1), 2)
					w.Add(e(1, 1), p(3))
					who, bad := w.Spawn(parts)
					if rows := w.Rows(); who != e(0, 2) || bad != api.OK || !slices.EqualFunc(rows, want, sameRow) {
						t.Errorf("P4: another answer beside other worlds: %v, %v, %v", who, bad, rows)
						return
					}
				}
				part, _ := whole.Get(e(1, 1), 1)
				if !samePart(part, p(1, 1, 2)) || len(whole.Rows()) != 2 || whole.Shapes()[6] != 2 || !bytes.Equal(whole.Snapshot(), written) {
					t.Errorf("P4: another answer of a world that is only asked: %v", part)
					return
				}
			}
		})
	}
	group.Wait()
	wantWorld(t, whole, r(0, 1, p(1, 1, 2), p(2, 3)), r(1, 1, p(1, 1, 2), p(2, 3)))
}
