package delta_test

import (
	"bytes"
	"runtime"
	"slices"
	"testing"

	"hindcast/api"
	"hindcast/delta"
	"hindcast/pack"
	"hindcast/world"
)

// crowd is a world of as many as may live, each with all kinds, all values the same.
func crowd(t testing.TB, value int64) *world.World {
	t.Helper()
	kinds := twelve()
	w := fresh(t, kinds)
	for range api.MaxEntities {
		var parts []api.Part
		for k, kind := range kinds {
			parts = append(parts, p(k+1, slices.Repeat([]int64{value}, len(kind.Fields))...))
		}
		if _, bad := w.Spawn(parts); bad != api.OK {
			t.Fatalf("the test's own world: %v", bad)
		}
	}
	return w
}

// TestCrowd: E1 to E4, as many as may live come, change in all that they have, go, and are others.
func TestCrowd(t *testing.T) {
	kinds, none := twelve(), fresh(t, twelve())
	one, other := crowd(t, 1<<62), crowd(t, -1<<63)
	others := one.Clone()
	for _, row := range one.Rows() {
		others.Despawn(row.E)
	}
	for range api.MaxEntities {
		others.Spawn(list(p(5)))
	}
	worlds := []*world.World{none, one, other, others}
	for _, a := range worlds {
		for _, b := range worlds {
			d := diff(t, a, b)
			wantApply(t, a, d, b)
			for _, c := range worlds {
				wantJoin(t, kinds, d, diff(t, b, c), diff(t, a, c))
			}
		}
	}
	for count, d := range map[int][]byte{200: diff(t, one, other), 400: diff(t, one, others)} {
		if changes, err := delta.Changes(kinds, d); err != nil || len(changes) != count {
			t.Errorf("E3: %d changes, %v, want %d", len(changes), err, count)
		}
	}
}

// long has the form, with very many changes, more than any two worlds have.
func long(what int, gens int) []byte {
	b := slices.Concat(pool(nil), pool(nil), pack.Put(nil, uint64(api.MaxEntities*gens)))
	for index := range api.MaxEntities {
		for gen := 1; gen <= gens; gen++ {
			b = append(b, (entry{e: e(index, gen), what: what, from: list(p(3))[:what%2]}).bytes()...)
		}
	}
	return b
}

// TestLong: E2 to E4, what it costs grows as the bytes do.
func TestLong(t *testing.T) {
	const gens = 300
	gone, born := long(1, gens), long(2, gens)
	none := deltaOf(pool(nil), pool(nil))
	for _, d := range [][]byte{gone, born} {
		changes, err := delta.Changes(three(), d)
		if err != nil || len(changes) != api.MaxEntities*gens {
			t.Fatalf("E3: %d changes, %v", len(changes), err)
		}
		if last := changes[len(changes)-1]; last.E != e(199, gens) {
			t.Errorf("E3: the last of many changes is of %v", last.E)
		}
		wantFault(t, "a byte behind many changes", three(), append(slices.Clone(d), 7), len(d), api.ErrDelta)
		for _, pair := range [][2][]byte{{d, none}, {none, d}} {
			if got, bad := delta.Join(three(), pair[0], pair[1]); bad != api.OK || !bytes.Equal(got, d) {
				t.Errorf("E4: Join of many changes with none: %d bytes, %v, want %d", len(got), bad, len(d))
			}
		}
		if w, bad := delta.Apply(fresh(t, three()), d); w != nil || bad != api.ErrDelta {
			t.Errorf("E2: Apply of many changes: %v", bad)
		}
	}
	got, bad := delta.Join(three(), gone, born)
	changes, err := delta.Changes(three(), got)
	if bad != api.OK || err != nil || len(changes) != api.MaxEntities*gens || !slices.Equal(changes[0].Lost, []int{3}) {
		t.Errorf("E4: Join of many who go and come: %d changes, %v, %v", len(changes), bad, err)
	}
	if got, bad := delta.Join(three(), gone, gone); got != nil || bad != api.ErrDelta {
		t.Errorf("E4: Join of many who go twice: %d bytes, %v", len(got), bad)
	}
}

// allocated tells how many bytes a call takes, in all, for each of those that it is handed.
func allocated(given int, call func()) uint64 {
	var was, is runtime.MemStats
	runtime.ReadMemStats(&was)
	call()
	runtime.ReadMemStats(&is)
	return (is.TotalAlloc - was.TotalAlloc) / uint64(given)
}

// TestTakesLittle: E1 to E4, memory that is taken for a byte handed in does not grow with how many there are.
func TestTakesLittle(t *testing.T) {
	none, w := deltaOf(pool(nil), pool(nil)), fresh(t, three())
	few, many := long(1, 10), long(1, 200)
	for what, call := range map[string]func(d []byte){
		"Changes":             func(d []byte) { delta.Changes(three(), d) },
		"Join, ahead of none": func(d []byte) { delta.Join(three(), d, none) },
		"Join, behind none":   func(d []byte) { delta.Join(three(), none, d) },
		"Join with another":   func(d []byte) { delta.Join(three(), d, long(2, len(d)*200/len(many))) },
		"Apply":               func(d []byte) { delta.Apply(w, d) },
	} {
		little, much := allocated(len(few), func() { call(few) }), allocated(len(many), func() { call(many) })
		if much > 3*little+100 {
			t.Errorf("E4: %s takes %d bytes for each of a long delta's, %d for each of a short one's", what, much, little)
		}
	}
}

// TestCountsThatLie: P1 of DOC.md, a number that says more than there is takes no memory, and no time.
func TestCountsThatLie(t *testing.T) {
	one := isNew(e(0, 1), p(2, 7)).bytes()
	for _, count := range []uint64{2, 200, 401, 1 << 31, 1 << 40, 1 << 63, 1<<64 - 1} {
		d := slices.Concat(make([]byte, 4), pack.Put(nil, count), one)
		wantFault(t, "fewer changes than told", three(), d, len(d), api.ErrDelta)
		wantNoApply(t, "fewer changes than told", fresh(t, three()), d)
		wantNoJoin(t, "fewer changes than told", three(), d, d)
		row := pack.Put(nil, count)
		for at := range 4 {
			d := append(make([]byte, at), row...)
			wantFault(t, "a row that is not there", three(), d, at, api.ErrDelta)
		}
	}
}

// TestManyKinds: P1 of DOC.md, very many kinds, and very long names, are refused without ado.
func TestManyKinds(t *testing.T) {
	many := slices.Repeat([]api.Kind{{Name: "A", Fields: slices.Repeat([]string{"x"}, 100)}}, 100000)
	wantFault(t, "many kinds", many, make([]byte, 5), 0, api.ErrKinds)
	if got, bad := delta.Join(many, make([]byte, 5), make([]byte, 5)); got != nil || bad != api.ErrKinds {
		t.Errorf("E4: many kinds: % x, %v", got, bad)
	}
}

// TestManyFields: E1 to E4, the kind 12 with four fields has the highest bit, and the last values.
func TestManyFields(t *testing.T) {
	kinds := slices.Repeat([]api.Kind{{Name: "A"}}, api.MaxKinds)
	for i := range kinds {
		kinds[i] = api.Kind{Name: string(rune('a' + i)), Fields: []string{"x", "y", "z", "w"}}
	}
	alone := pool(gens(1))
	a, b := loaded(t, kinds, alone, r(0, 1, p(1, 1, 2, 3, 4))), loaded(t, kinds, alone, r(0, 1, p(12, 5, 6, 7, 8)))
	d := diff(t, a, b)
	wantBytes(t, "E1: the kinds 1 and 12", d, unhex(t, "01 00 02 00, 01 00 02 00, 01: 00 01 03 02 80 20 02 04 06 08 0a 0c 0e 10"))
	wantApply(t, a, d, b)
	wantChanges(t, kinds, d, api.Change{E: e(0, 1), Parts: list(p(12, 5, 6, 7, 8)), Lost: []int{1}})
	wantFault(t, "the kind 13", kinds, unhex(t, "00 00 00 00 01: 00 01 02 80 40"), 8, api.ErrDelta)
	wantFault(t, "the same four values", kinds, unhex(t, "00 00 00 00 01: 00 01 03 80 20 80 20 02 04 06 08 02 04 06 08"), 16, api.ErrDelta)
	wantChanges(t, kinds, unhex(t, "00 00 00 00 01: 00 01 03 80 20 80 20 02 04 06 08 02 04 06 0a"), api.Change{E: e(0, 1), Parts: list(p(12, 1, 2, 3, 5))})
}
