package delta_test

import (
	"bytes"
	"fmt"
	"math/rand"
	"slices"
	"sync"
	"testing"

	"hindcast/api"
	"hindcast/delta"
	"hindcast/world"
)

const junk = 77

// roomy gives the list with room behind it, in which junk stands.
func roomy[T any](list []T, junk T) []T {
	around := append(slices.Clone(list), slices.Repeat([]T{junk}, 40)...)
	return around[:len(list)]
}

// whole gives the list with the room behind it.
func whole[T any](list []T) []T { return list[:cap(list)] }

// fill writes over a list, and the room behind it.
func fill[T any](list []T, junk T) {
	for i := range whole(list) {
		whole(list)[i] = junk
	}
}

func roomyKinds(kinds []api.Kind) []api.Kind {
	kinds = roomy(kinds, api.Kind{Name: "?"})
	for i, kind := range kinds {
		kinds[i].Fields = roomy(kind.Fields, "?")
	}
	return kinds
}

func kindsTold(kinds []api.Kind) string {
	text := ""
	for _, kind := range whole(kinds) {
		text += kind.Name + fmt.Sprint(whole(kind.Fields))
	}
	return text
}

func fillKinds(kinds []api.Kind) {
	for _, kind := range kinds {
		fill(kind.Fields, "!")
	}
	fill(kinds, api.Kind{Name: "!"})
}

func fillChanges(changes []api.Change) {
	for _, c := range changes {
		for _, part := range c.Parts {
			fill(part.Values, junk)
		}
		fill(c.Parts, p(junk, junk))
		fill(c.Lost, junk)
	}
	fill(changes, api.Change{E: e(junk, junk)})
}

// fillWorld does all there is to a world.
func fillWorld(w *world.World) {
	for i, row := range w.Rows() {
		for _, part := range row.Parts {
			fill(part.Values, junk)
			if i%3 == 0 {
				w.Set(row.E, part)
			} else {
				w.Remove(row.E, part.Kind)
			}
		}
		if i%3 == 2 {
			w.Despawn(row.E)
		}
	}
	for range 3 {
		w.Spawn(nil)
	}
}

// rolled are three worlds that are left to chance.
func rolled(t testing.TB, seed int) ([]api.Kind, [3]*world.World) {
	r := rand.New(rand.NewSource(int64(5000 + seed)))
	kinds := someKinds(r)
	worlds := grownWorlds(t, r, kinds, 6)
	return kinds, [3]*world.World{worlds[2], worlds[4], worlds[5]}
}

// TestWritesIntoNothing: P3 of DOC.md, kinds and bytes stay as they are, with the room behind their lists, and nothing of them is kept.
func TestWritesIntoNothing(t *testing.T) {
	for seed := range 100 {
		plain, w := rolled(t, seed)
		d, next, both := diff(t, w[0], w[1]), diff(t, w[1], w[2]), diff(t, w[0], w[2])
		changes, _ := delta.Changes(plain, d)
		want := told(changes)
		kinds, one, other := roomyKinds(plain), roomy(d, junk), roomy(next, junk)
		wasKinds, wasOne, wasOther := kindsTold(kinds), slices.Clone(whole(one)), slices.Clone(whole(other))
		got, err := delta.Changes(kinds, one)
		joined, bad := delta.Join(kinds, one, other)
		made, badWorld := delta.Apply(w[0], one)
		delta.Changes(kinds, one[:len(one)-1])
		delta.Join(kinds, other, one)
		delta.Apply(w[2], other)
		if err != nil || bad != api.OK || badWorld != api.OK {
			t.Fatalf("the test's own deltas: %v, %v, %v", err, bad, badWorld)
		}
		if kindsTold(kinds) != wasKinds || !bytes.Equal(whole(one), wasOne) || !bytes.Equal(whole(other), wasOther) {
			t.Fatalf("P3: what was handed in is written into: %s, % x, % x", kindsTold(kinds), whole(one), whole(other))
		}
		fillKinds(kinds)
		fill(one, junk)
		fill(other, junk)
		if told(got) != want || !bytes.Equal(joined, both) || !bytes.Equal(made.Snapshot(), w[1].Snapshot()) {
			t.Fatalf("P3: an answer changes with what was handed in: %s, % x, % x", told(got), joined, made.Snapshot())
		}
	}
}

// TestOneBehindTheOther: P3 of DOC.md, deltas may stand in one list, one behind the other or one on the other.
func TestOneBehindTheOther(t *testing.T) {
	for seed := range 100 {
		kinds, w := rolled(t, seed)
		d, next, both := diff(t, w[0], w[1]), diff(t, w[1], w[2]), diff(t, w[0], w[2])
		for _, pair := range [][2][]byte{{d, next}, {next, d}} {
			all := append(slices.Concat(pair[0], pair[1]), junk, junk, junk)
			was := slices.Clone(all)
			first, second := all[:len(pair[0])], all[len(pair[0]):len(pair[0])+len(pair[1])]
			got, bad := delta.Join(kinds, first, second)
			if bytes.Equal(pair[0], d) && (bad != api.OK || !bytes.Equal(got, both)) {
				t.Fatalf("E4: Join of two in one list: % x, %v, want % x", got, bad, both)
			}
			delta.Changes(kinds, first)
			delta.Apply(w[0], first)
			if !bytes.Equal(all, was) {
				t.Fatalf("P3: what stands behind a delta is written into: % x, want % x", all, was)
			}
		}
		still := diff(t, w[0], w[0])
		wantJoin(t, kinds, still, still, diff(t, w[0], w[0]))
	}
}

// TestAnswersAreNewMemory: P3 of DOC.md, what is written into an answer, and behind it, stands nowhere else.
func TestAnswersAreNewMemory(t *testing.T) {
	for seed := range 100 {
		kinds, w := rolled(t, seed)
		var was [3][]byte
		for i := range w {
			was[i] = w[i].Snapshot()
		}
		d, next, kept := diff(t, w[0], w[1]), diff(t, w[1], w[2]), diff(t, w[0], w[1])
		joined, _ := delta.Join(kinds, d, next)
		keptJoined, _ := delta.Join(kinds, d, next)
		made, _ := delta.Apply(w[0], d)
		keptMade, _ := delta.Apply(w[0], d)
		changes, _ := delta.Changes(kinds, d)
		keptChanges, _ := delta.Changes(kinds, d)
		want := told(keptChanges)
		fill(joined, junk)
		fillWorld(made)
		fillChanges(changes)
		if !bytes.Equal(d, kept) || !bytes.Equal(keptJoined, diff(t, w[0], w[2])) || !bytes.Equal(keptMade.Snapshot(), was[1]) || told(keptChanges) != want {
			t.Fatalf("P3: two answers share memory, or an answer and what was handed in: % x, % x, % x, %s", d, keptJoined, keptMade.Snapshot(), told(keptChanges))
		}
		fill(d, junk)
		fill(next, junk)
		for i := range w {
			if !bytes.Equal(w[i].Snapshot(), was[i]) {
				t.Fatalf("P3: a world changes with an answer: % x, want % x", w[i].Snapshot(), was[i])
			}
		}
		fillWorld(w[0])
		fillWorld(w[1])
		if !bytes.Equal(keptMade.Snapshot(), was[1]) {
			t.Fatalf("P3: a world changes with the one that it was made of: % x, want % x", keptMade.Snapshot(), was[1])
		}
	}
}

// TestListsOfChangesAreApart: P3 of DOC.md, no two lists of an answer share memory, nor does the room behind them.
func TestListsOfChangesAreApart(t *testing.T) {
	d := deltaOf(pool(nil), pool(nil),
		isNew(e(0, 1), p(1, 5, 6), p(2, 7), p(3)), isChanged(e(1, 1), list(p(1, 5, 6), p(3)), list(p(2, 8))), isChanged(e(2, 1), list(p(3)), list(p(1, 1, 2), p(2, 3))))
	want := []api.Change{{E: e(0, 1), New: true, Parts: list(p(1, 5, 6), p(2, 7), p(3))}, {E: e(1, 1), Parts: list(p(2, 8)), Lost: []int{1, 3}}, {E: e(2, 1), Parts: list(p(1, 1, 2), p(2, 3)), Lost: []int{3}}}
	spoilers := []func(c []api.Change){}
	for i, c := range want {
		for k := range c.Parts {
			spoilers = append(spoilers, func(c []api.Change) { fill(c[i].Parts[k].Values, junk); c[i].Parts[k].Values = nil })
		}
		spoilers = append(spoilers, func(c []api.Change) { fill(c[i].Lost, junk); c[i].Lost = nil })
		spoilers = append(spoilers, func(c []api.Change) { _ = append(c[i].Parts, p(junk)); fill(c[i].Parts, p(junk)); c[i].Parts = nil })
	}
	for _, spoil := range spoilers {
		got, err := delta.Changes(three(), d)
		if err != nil || told(got) != told(want) {
			t.Fatalf("E3: Changes of % x: %s, %v", d, told(got), err)
		}
		other, _ := delta.Changes(three(), d)
		spoil(got)
		for i := range got {
			// What was spoilt is left out on both sides; all else stands as it was.
			if got[i].Parts == nil {
				other[i].Parts = nil
			}
			if got[i].Lost == nil {
				other[i].Lost = nil
			}
			for k := range got[i].Parts {
				if got[i].Parts[k].Values == nil {
					other[i].Parts[k].Values = nil
				}
			}
		}
		if told(got) != told(other) {
			t.Errorf("P3: two lists of an answer share memory: %s, want %s", told(got), told(other))
		}
	}
}

// TestNothingBesideAnError: P2 of DOC.md, with an error all else is nothing, and the number is an error.
func TestNothingBesideAnError(t *testing.T) {
	w := fresh(t, two())
	d, noWorld := delta.Diff(nil, w)
	other, noKinds := delta.Diff(w, fresh(t, three()))
	made, noDelta := delta.Apply(w, []byte{1})
	joined, noJoin := delta.Join(two(), nil, nil)
	if d != nil || other != nil || made != nil || joined != nil {
		t.Errorf("P2: beside an error: % x, % x, %v, % x", d, other, made, joined)
	}
	for want, err := range map[string]error{"hindcast: error 1": noWorld, "hindcast: error 65": noKinds, "hindcast: error 200": noDelta} {
		if err.Error() != want {
			t.Errorf("P5: %v, want %s", err, want)
		}
	}
	if noJoin != api.ErrDelta {
		t.Errorf("E4: Join of nothing: %v", noJoin)
	}
}

// TestFaultsAreApart: P3 of DOC.md, a fault is the caller's.
func TestFaultsAreApart(t *testing.T) {
	for _, kinds := range [][]api.Kind{two(), nil} {
		_, one := delta.Changes(kinds, nil)
		_, other := delta.Changes(kinds, nil)
		was := other.Error()
		*one.(*api.Fault) = api.Fault{At: junk, Err: junk}
		if _, again := delta.Changes(kinds, nil); other.Error() != was || again.Error() != was {
			t.Errorf("P3: two faults are one: %v, %v, want %s", other, again, was)
		}
	}
}

// TestSideBySide: P4 of DOC.md, many may ask of the same worlds, kinds and bytes at a time.
func TestSideBySide(t *testing.T) {
	for seed := range 10 {
		kinds, w := rolled(t, seed)
		d, next, both := diff(t, w[0], w[1]), diff(t, w[1], w[2]), diff(t, w[0], w[2])
		changes, _ := delta.Changes(kinds, d)
		want := told(changes)
		var group sync.WaitGroup
		for range 8 {
			group.Go(func() {
				for range 20 {
					one, _ := delta.Diff(w[0], w[1])
					joined, _ := delta.Join(kinds, d, next)
					made, bad := delta.Apply(w[0], d)
					changes, _ := delta.Changes(kinds, d)
					if bad != api.OK || !bytes.Equal(one, d) || !bytes.Equal(joined, both) || !bytes.Equal(made.Snapshot(), w[1].Snapshot()) || told(changes) != want {
						t.Errorf("P4: another answer beside others: % x, % x, %v, %s", one, joined, bad, told(changes))
						return
					}
					fill(one, junk)
					fill(joined, junk)
					fillWorld(made)
					fillChanges(changes)
				}
			})
		}
		group.Wait()
	}
}
