package world_test

import (
	"bytes"
	"maps"
	"math"
	"slices"
	"strings"
	"testing"

	"hindcast/api"
	"hindcast/world"
)

func e(index, gen int) api.Entity { return api.Entity{Index: index, Gen: gen} }

func p(kind int, values ...int64) api.Part { return api.Part{Kind: kind, Values: values} }

func r(index, gen int, parts ...api.Part) api.Row { return api.Row{E: e(index, gen), Parts: parts} }

// three are the kinds of the chapter's examples: 1 is Pos, 2 is Vel, 3 is Dead.
func three() []api.Kind {
	return []api.Kind{{Name: "Pos", Fields: []string{"x", "y"}}, {Name: "Vel", Fields: []string{"x"}}, {Name: "Dead"}}
}

// most are as many kinds as may be, each with as many fields as may be.
func most() []api.Kind {
	var kinds []api.Kind
	for i := range api.MaxKinds {
		kinds = append(kinds, api.Kind{Name: "K" + strings.Repeat("k", i), Fields: []string{"a", "b", "c", "d"}})
	}
	return kinds
}

// full has a part of each of these kinds, by rising kinds, its values counted up from n on.
func full(kinds []api.Kind, n int64) []api.Part {
	var parts []api.Part
	for i, kind := range kinds {
		part := p(i + 1)
		for range kind.Fields {
			part.Values = append(part.Values, n)
			n++
		}
		parts = append(parts, part)
	}
	return parts
}

// fresh is a world in which nobody ever lived.
func fresh(t *testing.T, kinds []api.Kind) *world.World {
	t.Helper()
	w, bad := world.New(kinds)
	if bad != api.OK || w == nil {
		t.Fatalf("W1: New(%v): %v", kinds, bad)
	}
	return w
}

// made is a world of the chapter's kinds, and these rows, whose entities come as they stand.
func made(t *testing.T, rows ...api.Row) *world.World {
	t.Helper()
	w := fresh(t, three())
	for _, row := range rows {
		wantSpawn(t, w, row.E, row.Parts...)
	}
	return w
}

func wantSpawn(t *testing.T, w *world.World, want api.Entity, parts ...api.Part) {
	t.Helper()
	if who, bad := w.Spawn(parts); who != want || bad != api.OK {
		t.Errorf("W2: Spawn(%v): %v, %v, want %v", parts, who, bad, want)
	}
}

// wantNoSpawn asks for an entity that may not be: P2, nothing is changed, and nobody is told.
func wantNoSpawn(t *testing.T, w *world.World, want api.Errno, parts ...api.Part) {
	t.Helper()
	unchanged(t, w, func() {
		if who, bad := w.Spawn(parts); who != (api.Entity{}) || bad != want {
			t.Errorf("W2: Spawn(%v): %v, %v, want %v", parts, who, bad, want)
		}
	})
}

func wantDespawn(t *testing.T, w *world.World, who api.Entity) {
	t.Helper()
	if bad := w.Despawn(who); bad != api.OK {
		t.Errorf("W2: Despawn(%v): %v", who, bad)
	}
}

func wantAdd(t *testing.T, w *world.World, who api.Entity, part api.Part, want api.Errno) {
	t.Helper()
	if bad := w.Add(who, part); bad != want {
		t.Errorf("W3: Add(%v, %v): %v, want %v", who, part, bad, want)
	}
}

func wantRemove(t *testing.T, w *world.World, who api.Entity, kind int, want api.Errno) {
	t.Helper()
	if bad := w.Remove(who, kind); bad != want {
		t.Errorf("W3: Remove(%v, %d): %v, want %v", who, kind, bad, want)
	}
}

func wantSet(t *testing.T, w *world.World, who api.Entity, part api.Part, want api.Errno) {
	t.Helper()
	if bad := w.Set(who, part); bad != want {
		t.Errorf("W3: Set(%v, %v): %v, want %v", who, part, bad, want)
	}
}

func wantGet(t *testing.T, w *world.World, who api.Entity, want api.Part) {
	t.Helper()
	if part, bad := w.Get(who, want.Kind); bad != api.OK || !samePart(part, want) {
		t.Errorf("W4: Get(%v, %d): %v, %v, want %v", who, want.Kind, part, bad, want)
	}
}

func wantNoGet(t *testing.T, w *world.World, who api.Entity, kind int, want api.Errno) {
	t.Helper()
	if part, bad := w.Get(who, kind); part.Kind != 0 || part.Values != nil || bad != want {
		t.Errorf("W4: Get(%v, %d): %v, %v, want %v", who, kind, part, bad, want)
	}
}

func samePart(a, b api.Part) bool { return a.Kind == b.Kind && slices.Equal(a.Values, b.Values) }

func sameRow(a, b api.Row) bool { return a.E == b.E && slices.EqualFunc(a.Parts, b.Parts, samePart) }

func sameKind(a, b api.Kind) bool { return a.Name == b.Name && slices.Equal(a.Fields, b.Fields) }

func setOf(parts []api.Part) int {
	set := 0
	for _, part := range parts {
		set |= 1 << part.Kind
	}
	return set
}

// wantWorld holds a world against the rows of all that live, by rising numbers, as each call that asks tells them.
func wantWorld(t *testing.T, w *world.World, want ...api.Row) {
	t.Helper()
	if rows := w.Rows(); !slices.EqualFunc(rows, want, sameRow) {
		t.Errorf("W5: Rows: %v, want %v", rows, want)
	}
	shapes := map[int]int{}
	for _, row := range want {
		shapes[setOf(row.Parts)]++
		wantRow(t, w, row)
	}
	if got := w.Shapes(); !maps.Equal(got, shapes) {
		t.Errorf("W5: Shapes: %v, want %v", got, shapes)
	}
}

// wantRow holds one that lives against its row, and asks for what it has not.
func wantRow(t *testing.T, w *world.World, want api.Row) {
	t.Helper()
	if !w.Lives(want.E) {
		t.Errorf("W4: Lives(%v): false", want.E)
	}
	if row, bad := w.Row(want.E); bad != api.OK || !sameRow(row, want) {
		t.Errorf("W4: Row(%v): %v, %v, want %v", want.E, row, bad, want)
	}
	for kind := 1; kind <= len(w.Kinds()); kind++ {
		place := slices.IndexFunc(want.Parts, func(part api.Part) bool { return part.Kind == kind })
		if place < 0 {
			wantNoGet(t, w, want.E, kind, api.ErrHasNot)
		} else {
			wantGet(t, w, want.E, want.Parts[place])
		}
	}
	for _, kind := range noKinds(w) {
		wantNoGet(t, w, want.E, kind, api.ErrKind)
	}
}

// noKinds are numbers next to those of a world's kinds, and far from them.
func noKinds(w *world.World) []int {
	n := len(w.Kinds())
	return []int{0, -1, -2, -64, math.MinInt, math.MinInt32, n + 1, n + 2, 31, 32, 33, 62, 63, 64, 65, 129, math.MaxInt32, math.MaxInt}
}

// unchanged holds all that a world tells behind a call against what it told ahead of it.
func unchanged(t *testing.T, w *world.World, call func()) {
	t.Helper()
	rows, shapes, b := w.Rows(), w.Shapes(), w.Snapshot()
	call()
	if got := w.Rows(); !slices.EqualFunc(got, rows, sameRow) {
		t.Errorf("P2: Rows behind a call that is refused: %v, want %v", got, rows)
	}
	if got := w.Shapes(); !maps.Equal(got, shapes) {
		t.Errorf("P2: Shapes behind a call that is refused: %v, want %v", got, shapes)
	}
	if got := w.Snapshot(); !bytes.Equal(got, b) {
		t.Errorf("P2: Snapshot behind a call that is refused: %x, want %x", got, b)
	}
}

// wantStale makes all calls of one that does not live, each with what would be wrong besides.
func wantStale(t *testing.T, w *world.World, who api.Entity) {
	t.Helper()
	unchanged(t, w, func() {
		if w.Lives(who) {
			t.Errorf("W4: Lives(%v): true", who)
		}
		if row, bad := w.Row(who); row.E != (api.Entity{}) || row.Parts != nil || bad != api.ErrStale {
			t.Errorf("W4: Row(%v): %v, %v", who, row, bad)
		}
		if bad := w.Despawn(who); bad != api.ErrStale {
			t.Errorf("W2: Despawn(%v): %v", who, bad)
		}
		for _, kind := range append(noKinds(w), 1, 2, 3) {
			wantNoGet(t, w, who, kind, api.ErrStale)
			wantRemove(t, w, who, kind, api.ErrStale)
			for count := range 4 {
				wantAdd(t, w, who, p(kind, make([]int64, count)...), api.ErrStale)
				wantSet(t, w, who, p(kind, make([]int64, count)...), api.ErrStale)
			}
		}
	})
}

// TestExamples: the chapter's examples.
func TestExamples(t *testing.T) {
	w := fresh(t, three())
	wantSpawn(t, w, e(0, 1), p(2, 7), p(1, 1, 2))
	wantWorld(t, w, r(0, 1, p(1, 1, 2), p(2, 7)))
	if shapes := w.Shapes(); !maps.Equal(shapes, map[int]int{6: 1}) {
		t.Errorf("W5: Shapes: %v", shapes)
	}
	wantSpawn(t, w, e(1, 1))
	if shapes := w.Shapes(); !maps.Equal(shapes, map[int]int{6: 1, 0: 1}) {
		t.Errorf("W5: Shapes: %v", shapes)
	}
	wantAdd(t, w, e(1, 1), p(3), api.OK)
	wantAdd(t, w, e(1, 1), p(3), api.ErrHas)
	wantRemove(t, w, e(0, 1), 3, api.ErrHasNot)
	wantRemove(t, w, e(0, 1), 4, api.ErrKind)
	wantNoSpawn(t, w, api.ErrField, p(1, 1))
	wantNoSpawn(t, w, api.ErrHas, p(2, 1), p(2, 2))
	wantDespawn(t, w, e(0, 1))
	wantWorld(t, w, r(1, 1, p(3)))
	if b := w.Snapshot(); !bytes.Equal(b, []byte{0x02, 0x00, 0x02, 0x02, 0x01, 0x00, 0x00, 0x08}) {
		t.Errorf("W6: Snapshot: %x", b)
	}
}

// TestNewIsEmpty: W1, nobody ever lived in a new world, and numbers come from 0 on.
func TestNewIsEmpty(t *testing.T) {
	for _, kinds := range [][]api.Kind{{{Name: "a"}}, three(), most()} {
		w := fresh(t, kinds)
		wantWorld(t, w)
		if b := w.Snapshot(); !bytes.Equal(b, []byte{0, 0}) {
			t.Errorf("W6: Snapshot of a new world: %x", b)
		}
		wantStale(t, w, e(0, 1))
		wantStale(t, w, e(0, 0))
		wantSpawn(t, w, e(0, 1))
		wantSpawn(t, w, e(1, 1))
	}
}

// TestKinds: W1, a world's kinds are those that it was made of, in their order, whatever is done with it.
func TestKinds(t *testing.T) {
	for _, kinds := range [][]api.Kind{{{Name: "a"}}, {{Name: "b", Fields: []string{}}}, three(), most()} {
		w := fresh(t, kinds)
		wantSpawn(t, w, e(0, 1), full(kinds, 5)...)
		loaded, bad := world.Load(kinds, w.Snapshot())
		if bad != api.OK {
			t.Fatalf("W6: Load: %v", bad)
		}
		for _, x := range []*world.World{w, loaded, w.Clone()} {
			if got := x.Kinds(); !slices.EqualFunc(got, kinds, sameKind) {
				t.Errorf("W1: Kinds: %v, want %v", got, kinds)
			}
		}
	}
}

// TestHowManyKinds: W1, there are 1 to MaxKinds kinds, each with 0 to MaxFields fields.
func TestHowManyKinds(t *testing.T) {
	wantKinds(t, false)
	wantKinds(t, true, api.Kind{Name: "a"})
	kinds := most()
	wantKinds(t, true, kinds...)
	for count := 1; count <= api.MaxKinds; count++ {
		wantKinds(t, true, kinds[:count]...)
	}
	wantKinds(t, false, append(kinds, api.Kind{Name: "z"})...)
	wantKinds(t, false, make([]api.Kind, 5000)...)
	fields := []string{"a", "b", "c", "d", "e", "f"}
	for count := range len(fields) + 1 {
		wantKinds(t, count <= 4, api.Kind{Name: "k", Fields: fields[:count]})
		wantKinds(t, count <= 4, api.Kind{Name: "j"}, api.Kind{Name: "k", Fields: fields[:count]})
	}
}

// wantKinds holds what New and Load say to kinds against whether they may be.
func wantKinds(t *testing.T, may bool, kinds ...api.Kind) {
	t.Helper()
	want := api.OK
	if !may {
		want = api.ErrKinds
	}
	if w, bad := world.New(kinds); bad != want || (w != nil) != may {
		t.Errorf("W1: New(%q): %v, want %v", kinds, bad, want)
	}
	if w, bad := world.Load(kinds, []byte{0, 0}); bad != want || (w != nil) != may {
		t.Errorf("W6: Load(%q) of an empty world: %v, want %v", kinds, bad, want)
	}
	// P2: that the kinds may not be goes ahead of what is wrong with the bytes.
	if w, bad := world.Load(kinds, nil); w != nil || may != (bad == api.ErrWorld) || !may && bad != api.ErrKinds {
		t.Errorf("W6: Load(%q) of no bytes: %v", kinds, bad)
	}
}

// wantWord holds a text as a kind's name, and as a field's, against whether it is a word.
func wantWord(t *testing.T, text string, may bool) {
	t.Helper()
	wantKinds(t, may, api.Kind{Name: text})
	wantKinds(t, may, api.Kind{Name: "q0_q"}, api.Kind{Name: text})
	wantKinds(t, may, api.Kind{Name: "q0_q", Fields: []string{text}})
	wantKinds(t, may, api.Kind{Name: "q0_q", Fields: []string{"u1_u", "v2_v", "w3_w", text}})
	wantKinds(t, may, api.Kind{Name: "q0_q"}, api.Kind{Name: "r0_r", Fields: []string{"u1_u", text}})
}

// TestWords: W1, each byte at the front of a word, in it, and at its end.
func TestWords(t *testing.T) {
	const letters = "ABCDEFGHIJKLMNOPQRSTUVWXYZabcdefghijklmnopqrstuvwxyz"
	for i := range 256 {
		c := string([]byte{byte(i)})
		first := strings.Contains(letters, c)
		inside := first || strings.Contains("0123456789_", c)
		wantWord(t, c, first)
		wantWord(t, c+"a", first)
		wantWord(t, "a"+c, inside)
		wantWord(t, "a"+c+"b", inside)
		wantWord(t, strings.Repeat("a", api.MaxName-1)+c, inside)
	}
	for _, text := range []string{"", " a", "a ", "é", "aé", "ａ", "a\u0301", "٣", "a٣", "\xff", "a.b", "a-b", "_", "__", "9", "a\x00"} {
		wantWord(t, text, false)
	}
	for _, text := range []string{"a_", "a__b", "Z9", "x1y2", "if", "system", "A_0_z"} {
		wantWord(t, text, true)
	}
}

// TestLongWords: W1, a word has at most MaxName bytes.
func TestLongWords(t *testing.T) {
	for size := range 40 {
		wantWord(t, strings.Repeat("a", size), size >= 1 && size <= 16)
	}
	wantWord(t, strings.Repeat("x", 1<<20), false)
	wantWord(t, "a"+strings.Repeat("é", 8), false)
}

// TestNoTwoTheSame: W1, of names, and of the fields of one kind; all else may be the same.
func TestNoTwoTheSame(t *testing.T) {
	kinds := most()
	for i := range kinds {
		for j := range i {
			twice := slices.Clone(kinds)
			twice[i].Name = twice[j].Name
			wantKinds(t, false, twice...)
		}
	}
	fields := []string{"a", "b", "c", "d"}
	for i := range fields {
		for j := range i {
			twice := slices.Clone(fields)
			twice[i] = twice[j]
			wantKinds(t, false, api.Kind{Name: "k", Fields: twice})
			wantKinds(t, false, api.Kind{Name: "j", Fields: fields}, api.Kind{Name: "k", Fields: twice})
		}
	}
	wantKinds(t, true, api.Kind{Name: "a", Fields: []string{"a", "b"}}, api.Kind{Name: "b", Fields: []string{"a", "b"}})
	wantKinds(t, true, api.Kind{Name: "a", Fields: []string{"x", "X"}}, api.Kind{Name: "A"})
}

// TestSpawnInAnyOrder: W2, in whatever order the parts stand, the entity has them.
func TestSpawnInAnyOrder(t *testing.T) {
	a, b, c := p(1, 1, 2), p(2, 3), p(3)
	w := fresh(t, three())
	var want []api.Row
	for i, parts := range [][]api.Part{{a, b, c}, {a, c, b}, {b, a, c}, {b, c, a}, {c, a, b}, {c, b, a}} {
		wantSpawn(t, w, e(i, 1), parts...)
		want = append(want, r(i, 1, a, b, c))
	}
	wantWorld(t, w, want...)
	parts := full(most(), math.MaxInt64-20)
	slices.Reverse(parts)
	w = fresh(t, most())
	wantSpawn(t, w, e(0, 1), parts...)
	wantSpawn(t, w, e(1, 1), parts[3], parts[11], parts[7])
	slices.Reverse(parts)
	wantWorld(t, w, r(0, 1, parts...), r(1, 1, parts[0], parts[4], parts[8]))
}

// TestSpawnWithEachSet: W2 and W5, of all sets of the chapter's kinds, each some times.
func TestSpawnWithEachSet(t *testing.T) {
	w := fresh(t, three())
	var want []api.Row
	for i := range 40 {
		parts := full(three(), int64(10*i))
		parts = slices.DeleteFunc(parts, func(part api.Part) bool { return i>>(part.Kind-1)&1 == 0 })
		wantSpawn(t, w, e(i, 1), parts...)
		want = append(want, r(i, 1, parts...))
	}
	wantWorld(t, w, want...)
	shapes := map[int]int{0: 5, 2: 5, 4: 5, 6: 5, 8: 5, 10: 5, 12: 5, 14: 5}
	if got := w.Shapes(); !maps.Equal(got, shapes) {
		t.Errorf("W5: Shapes: %v, want %v", got, shapes)
	}
}

// TestSpawnOfWrongParts: W2, the first part that is wrong is told; of that one a kind that is none, then one that came already, then its values.
func TestSpawnOfWrongParts(t *testing.T) {
	w := made(t, r(0, 1, p(1, 1, 2)))
	for _, kind := range noKinds(w) {
		wantNoSpawn(t, w, api.ErrKind, p(kind))
		wantNoSpawn(t, w, api.ErrKind, p(kind, 1, 2))
		wantNoSpawn(t, w, api.ErrKind, p(1, 1, 2), p(kind))
		wantNoSpawn(t, w, api.ErrKind, p(kind), p(kind), p(1))
		wantNoSpawn(t, w, api.ErrHas, p(3), p(3), p(kind))
		wantNoSpawn(t, w, api.ErrField, p(2), p(kind), p(2))
	}
	for kind, fields := range []int{1: 2, 2: 1, 3: 0} {
		for count := range 6 {
			if kind == 0 || count == fields {
				continue
			}
			bad, good := p(kind, make([]int64, count)...), p(kind, make([]int64, fields)...)
			wantNoSpawn(t, w, api.ErrField, bad)
			wantNoSpawn(t, w, api.ErrField, bad, bad)
			wantNoSpawn(t, w, api.ErrField, bad, good)
			wantNoSpawn(t, w, api.ErrHas, good, bad)
			wantNoSpawn(t, w, api.ErrHas, good, good)
			wantNoSpawn(t, w, api.ErrField, bad, p(9))
			wantNoSpawn(t, w, api.ErrHas, good, bad, p(9))
		}
	}
	wantNoSpawn(t, w, api.ErrHas, p(1, 1, 2), p(2, 1), p(3), p(1, 1, 2))
	wantNoSpawn(t, w, api.ErrHas, slices.Repeat([]api.Part{p(3)}, 100000)...)
	wantSpawn(t, w, e(1, 1), p(3))
	wantWorld(t, w, r(0, 1, p(1, 1, 2)), r(1, 1, p(3)))
}

// TestFull: W2, MaxEntities live at one time; what is wrong with the parts goes ahead; who goes makes room.
func TestFull(t *testing.T) {
	w := fresh(t, most())
	var want []api.Row
	for i := range api.MaxEntities {
		parts := full(most(), int64(100*i))
		wantSpawn(t, w, e(i, 1), parts...)
		want = append(want, r(i, 1, parts...))
	}
	wantWorld(t, w, want...)
	wantNoSpawn(t, w, api.ErrFull)
	wantNoSpawn(t, w, api.ErrFull, p(1, 1, 2, 3, 4))
	wantNoSpawn(t, w, api.ErrKind, p(13))
	wantNoSpawn(t, w, api.ErrHas, p(1, 1, 2, 3, 4), p(1, 1, 2, 3, 4))
	wantNoSpawn(t, w, api.ErrField, p(1, 1, 2, 3))
	wantStale(t, w, e(api.MaxEntities, 1))
	wantDespawn(t, w, e(77, 1))
	wantSpawn(t, w, e(77, 2))
	want[77] = r(77, 2)
	wantWorld(t, w, want...)
	wantNoSpawn(t, w, api.ErrFull)
}

// TestDespawn: W2, who was taken away has nothing and never lives again; the number comes again, last behind those that went ahead of it.
func TestDespawn(t *testing.T) {
	w := made(t, r(0, 1, p(1, 1, 2)), r(1, 1, p(1, 3, 4)), r(2, 1, p(1, 5, 6)), r(3, 1))
	wantDespawn(t, w, e(2, 1))
	wantDespawn(t, w, e(0, 1))
	wantWorld(t, w, r(1, 1, p(1, 3, 4)), r(3, 1))
	wantStale(t, w, e(2, 1))
	wantStale(t, w, e(0, 1))
	wantSpawn(t, w, e(2, 2))
	wantSpawn(t, w, e(0, 2), p(3))
	wantSpawn(t, w, e(4, 1), p(2, 9))
	wantWorld(t, w, r(0, 2, p(3)), r(1, 1, p(1, 3, 4)), r(2, 2), r(3, 1), r(4, 1, p(2, 9)))
	wantStale(t, w, e(2, 1))
	wantStale(t, w, e(0, 1))
}

// TestDespawnAll: W2 and W5, of a world where all are gone nothing is left but the numbers.
func TestDespawnAll(t *testing.T) {
	w := made(t, r(0, 1, p(1, 1, 2)), r(1, 1), r(2, 1, p(1, 5, 6)))
	for _, who := range []api.Entity{e(1, 1), e(0, 1), e(2, 1)} {
		wantDespawn(t, w, who)
		wantStale(t, w, who)
	}
	wantWorld(t, w)
	if rows, shapes := w.Rows(), w.Shapes(); len(rows) != 0 || len(shapes) != 0 {
		t.Errorf("W5: where nobody lives: %v, %v", rows, shapes)
	}
	wantSpawn(t, w, e(1, 2), p(1, 7, 8))
	wantWorld(t, w, r(1, 2, p(1, 7, 8)))
}

// TestStale: W2 to W4, entities that were never given out, whatever they are.
func TestStale(t *testing.T) {
	w := made(t, r(0, 1, p(1, 1, 2)), r(1, 1))
	for _, index := range []int{0, 1, 2, -1, 199, 200, 201, math.MinInt, math.MaxInt} {
		for _, gen := range []int{0, 2, -1, api.MaxGen, api.MaxGen + 1, math.MinInt, math.MaxInt} {
			wantStale(t, w, e(index, gen))
		}
		if index != 0 && index != 1 {
			wantStale(t, w, e(index, 1))
		}
	}
}

// TestAdd: W3, a part comes to those that are there, wherever it stands among them.
func TestAdd(t *testing.T) {
	w := made(t, r(0, 1), r(1, 1, p(3)), r(2, 1, p(2, 5)))
	wantAdd(t, w, e(0, 1), p(2, -7), api.OK)
	wantAdd(t, w, e(1, 1), p(2, 8), api.OK)
	wantAdd(t, w, e(1, 1), p(1, 1, 2), api.OK)
	wantAdd(t, w, e(2, 1), p(3), api.OK)
	wantWorld(t, w, r(0, 1, p(2, -7)), r(1, 1, p(1, 1, 2), p(2, 8), p(3)), r(2, 1, p(2, 5), p(3)))
	wantAdd(t, w, e(2, 1), p(1, math.MinInt64, math.MaxInt64), api.OK)
	wantWorld(t, w, r(0, 1, p(2, -7)), r(1, 1, p(1, 1, 2), p(2, 8), p(3)), r(2, 1, p(1, math.MinInt64, math.MaxInt64), p(2, 5), p(3)))
}

// TestAddWrong: W3, a kind that is none goes ahead of one that it has, and that ahead of its values.
func TestAddWrong(t *testing.T) {
	w := made(t, r(0, 1, p(1, 1, 2)), r(1, 1))
	unchanged(t, w, func() {
		for _, kind := range noKinds(w) {
			wantAdd(t, w, e(0, 1), p(kind), api.ErrKind)
			wantAdd(t, w, e(0, 1), p(kind, 1, 2), api.ErrKind)
		}
		for count := range 6 {
			values := make([]int64, count)
			wantAdd(t, w, e(0, 1), p(1, values...), api.ErrHas)
			for kind, fields := range []int{1: 2, 2: 1, 3: 0} {
				if kind > 0 && count != fields {
					wantAdd(t, w, e(1, 1), p(kind, values...), api.ErrField)
				}
			}
		}
	})
}

// TestRemove: W3, a part goes, wherever it stood, and all others stay; it may come again.
func TestRemove(t *testing.T) {
	a, b, c := p(1, 1, 2), p(2, 3), p(3)
	w := made(t, r(0, 1, a, b, c), r(1, 1, a, b, c), r(2, 1, a, b, c), r(3, 1, b))
	wantRemove(t, w, e(0, 1), 1, api.OK)
	wantRemove(t, w, e(1, 1), 2, api.OK)
	wantRemove(t, w, e(2, 1), 3, api.OK)
	wantRemove(t, w, e(3, 1), 2, api.OK)
	wantWorld(t, w, r(0, 1, b, c), r(1, 1, a, c), r(2, 1, a, b), r(3, 1))
	wantRemove(t, w, e(0, 1), 1, api.ErrHasNot)
	wantRemove(t, w, e(3, 1), 2, api.ErrHasNot)
	wantAdd(t, w, e(0, 1), p(1, 8, 9), api.OK)
	wantRemove(t, w, e(2, 1), 1, api.OK)
	wantRemove(t, w, e(2, 1), 2, api.OK)
	wantWorld(t, w, r(0, 1, p(1, 8, 9), b, c), r(1, 1, a, c), r(2, 1), r(3, 1))
}

// TestRemoveWrong: W3, a kind that is none goes ahead of one that it has not.
func TestRemoveWrong(t *testing.T) {
	w := made(t, r(0, 1, p(1, 1, 2)), r(1, 1))
	unchanged(t, w, func() {
		for _, who := range []api.Entity{e(0, 1), e(1, 1)} {
			for _, kind := range noKinds(w) {
				wantRemove(t, w, who, kind, api.ErrKind)
			}
			wantRemove(t, w, who, 2, api.ErrHasNot)
			wantRemove(t, w, who, 3, api.ErrHasNot)
		}
		wantRemove(t, w, e(1, 1), 1, api.ErrHasNot)
	})
}

// TestSet: W3, the values of this part of this entity, and of no other.
func TestSet(t *testing.T) {
	kinds := most()
	w := fresh(t, kinds)
	var want []api.Row
	for i := range 5 {
		want = append(want, r(i, 1, full(kinds, int64(100*i))...))
		wantSpawn(t, w, e(i, 1), want[i].Parts...)
	}
	for i := range 5 {
		for place := range kinds {
			n := int64(1000*i + 10*place)
			part := p(place+1, n, -n, math.MinInt64+n, math.MaxInt64-n)
			wantSet(t, w, e(i, 1), part, api.OK)
			want[i].Parts[place] = part
			wantWorld(t, w, want...)
		}
	}
	w = made(t, r(0, 1, p(1, 1, 2), p(3)), r(1, 1, p(2, 3), p(3)))
	wantSet(t, w, e(0, 1), p(3), api.OK)
	wantSet(t, w, e(1, 1), p(2, 0), api.OK)
	wantSet(t, w, e(0, 1), p(1, 2, 1), api.OK)
	wantWorld(t, w, r(0, 1, p(1, 2, 1), p(3)), r(1, 1, p(2, 0), p(3)))
}

// TestSetWrong: W3, a kind that is none goes ahead of one that it has not, and that ahead of its values.
func TestSetWrong(t *testing.T) {
	w := made(t, r(0, 1, p(1, 1, 2), p(3)), r(1, 1))
	unchanged(t, w, func() {
		for _, kind := range noKinds(w) {
			wantSet(t, w, e(0, 1), p(kind), api.ErrKind)
			wantSet(t, w, e(1, 1), p(kind, 1, 2), api.ErrKind)
		}
		for count := range 6 {
			values := make([]int64, count)
			wantSet(t, w, e(0, 1), p(2, values...), api.ErrHasNot)
			for kind := 1; kind <= 3; kind++ {
				wantSet(t, w, e(1, 1), p(kind, values...), api.ErrHasNot)
			}
			if count != 2 {
				wantSet(t, w, e(0, 1), p(1, values...), api.ErrField)
			}
			if count != 0 {
				wantSet(t, w, e(0, 1), p(3, values...), api.ErrField)
			}
		}
	})
}

// TestNothing: W2 to W6, an entity that has nothing lives, and is told.
func TestNothing(t *testing.T) {
	w := made(t, r(0, 1), r(1, 1))
	wantWorld(t, w, r(0, 1), r(1, 1))
	if shapes := w.Shapes(); !maps.Equal(shapes, map[int]int{0: 2}) {
		t.Errorf("W5: Shapes: %v", shapes)
	}
	wantAdd(t, w, e(0, 1), p(3), api.OK)
	wantRemove(t, w, e(0, 1), 3, api.OK)
	wantDespawn(t, w, e(1, 1))
	wantWorld(t, w, r(0, 1))
	if who, bad := w.Spawn([]api.Part{}); who != e(1, 2) || bad != api.OK {
		t.Errorf("W2: Spawn of no parts: %v, %v", who, bad)
	}
}

// TestRowsByIndex: W5, rows stand by rising numbers, in whatever order and with whatever kinds the entities came; P4, each time.
func TestRowsByIndex(t *testing.T) {
	w := fresh(t, three())
	for i := range api.MaxEntities {
		wantSpawn(t, w, e(i, 1), full(three(), int64(i))[:i%4]...)
	}
	var want []api.Row
	for i := range api.MaxEntities {
		index := i * 77 % api.MaxEntities
		wantDespawn(t, w, e(index, 1))
		wantSpawn(t, w, e(index, 2), full(three(), int64(index))[index%3:]...)
		want = append(want, r(i, 2, full(three(), int64(i))[i%3:]...))
	}
	for range 20 {
		wantWorld(t, w, want...)
	}
	b := w.Snapshot()
	for range 20 {
		if again := w.Snapshot(); !bytes.Equal(again, b) {
			t.Fatalf("P4: Snapshot answers %x, and then %x", b, again)
		}
	}
}

// TestShapesWithoutNobody: W5, a set that nobody has any more is not told.
func TestShapesWithoutNobody(t *testing.T) {
	w := made(t, r(0, 1, p(1, 1, 2)), r(1, 1, p(1, 1, 2)), r(2, 1, p(3)))
	steps := []struct {
		call func() api.Errno
		want map[int]int
	}{
		{func() api.Errno { return w.Add(e(0, 1), p(2, 5)) }, map[int]int{6: 1, 2: 1, 8: 1}},
		{func() api.Errno { return w.Add(e(1, 1), p(2, 6)) }, map[int]int{6: 2, 8: 1}},
		{func() api.Errno { return w.Remove(e(2, 1), 3) }, map[int]int{6: 2, 0: 1}},
		{func() api.Errno { return w.Despawn(e(2, 1)) }, map[int]int{6: 2}},
		{func() api.Errno { return w.Remove(e(0, 1), 1) }, map[int]int{6: 1, 4: 1}},
		{func() api.Errno { return w.Despawn(e(1, 1)) }, map[int]int{4: 1}},
		{func() api.Errno { return w.Set(e(0, 1), p(2, 1)) }, map[int]int{4: 1}},
		{func() api.Errno { return w.Despawn(e(0, 1)) }, map[int]int{}},
	}
	for i, step := range steps {
		if bad := step.call(); bad != api.OK {
			t.Errorf("W3: step %d: %v", i, bad)
		}
		if got := w.Shapes(); !maps.Equal(got, step.want) {
			t.Errorf("W5: Shapes behind step %d: %v, want %v", i, got, step.want)
		}
	}
}

// TestClone: W7, a clone is like what it was made of, and goes its own way, as the other one does.
func TestClone(t *testing.T) {
	w := made(t, r(0, 1, p(1, 1, 2)), r(1, 1, p(1, 3, 4)), r(2, 1))
	wantDespawn(t, w, e(2, 1))
	c := w.Clone()
	if !bytes.Equal(c.Snapshot(), w.Snapshot()) {
		t.Errorf("W7: a clone's Snapshot: %x, want %x", c.Snapshot(), w.Snapshot())
	}
	wantWorld(t, c, r(0, 1, p(1, 1, 2)), r(1, 1, p(1, 3, 4)))
	wantSet(t, w, e(0, 1), p(1, 8, 9), api.OK)
	wantAdd(t, w, e(1, 1), p(3), api.OK)
	wantSpawn(t, w, e(2, 2), p(2, 5))
	wantWorld(t, c, r(0, 1, p(1, 1, 2)), r(1, 1, p(1, 3, 4)))
	wantStale(t, c, e(2, 2))
	wantDespawn(t, c, e(0, 1))
	wantRemove(t, c, e(1, 1), 1, api.OK)
	wantSpawn(t, c, e(2, 2))
	wantSpawn(t, c, e(0, 2))
	wantWorld(t, w, r(0, 1, p(1, 8, 9)), r(1, 1, p(1, 3, 4), p(3)), r(2, 2, p(2, 5)))
	wantWorld(t, c, r(0, 2), r(1, 1), r(2, 2))
}
