package delta_test

import (
	"bytes"
	"fmt"
	"math/rand"
	"slices"
	"testing"

	"hindcast/api"
	"hindcast/delta"
	"hindcast/world"
)

// TestLeads: P10 of DOC.md, of any two worlds of one line or of several the delta leads from the one to the other one, and back; from a world to itself it has no changes.
func TestLeads(t *testing.T) {
	for seed := range 60 {
		r := rand.New(rand.NewSource(int64(seed)))
		kinds := someKinds(r)
		worlds := grownWorlds(t, r, kinds, 7)
		for _, a := range worlds {
			for _, b := range worlds {
				wantApply(t, a, diff(t, a, b), b)
				if same := bytes.Equal(a.Snapshot(), b.Snapshot()); same {
					wantChanges(t, kinds, diff(t, a, b))
				}
			}
		}
	}
}

// TestJoinedLead: P10 of DOC.md, the deltas over any world between are, joined, the delta without it, byte by byte.
func TestJoinedLead(t *testing.T) {
	for seed := range 30 {
		r := rand.New(rand.NewSource(int64(1000 + seed)))
		kinds := someKinds(r)
		worlds := grownWorlds(t, r, kinds, 6)
		for _, a := range worlds {
			for _, b := range worlds {
				for _, c := range worlds {
					wantJoin(t, kinds, diff(t, a, b), diff(t, b, c), diff(t, a, c))
				}
			}
		}
	}
}

// TestAllTheWay: P10 of DOC.md, deltas of a long line of worlds, joined from the front, from the back, or by halves, are one, and lead all the way.
func TestAllTheWay(t *testing.T) {
	joined := func(kinds []api.Kind, d, next []byte) []byte {
		both, bad := delta.Join(kinds, d, next)
		if bad != api.OK {
			t.Fatalf("P10: Join of % x and % x: %v", d, next, bad)
		}
		return both
	}
	for seed := range 20 {
		r := rand.New(rand.NewSource(int64(2000 + seed)))
		kinds := someKinds(r)
		line := grownWorlds(t, r, kinds, 40)
		var steps [][]byte
		for i := range line[1:] {
			steps = append(steps, diff(t, line[i], line[i+1]))
		}
		fromFront, fromBack := steps[0], steps[len(steps)-1]
		for i := range steps[1:] {
			fromFront = joined(kinds, fromFront, steps[i+1])
			fromBack = joined(kinds, steps[len(steps)-2-i], fromBack)
			wantApply(t, line[0], fromFront, line[i+2])
			wantApply(t, line[len(line)-3-i], fromBack, line[len(line)-1])
		}
		byHalves := slices.Clone(steps)
		for len(byHalves) > 1 {
			at := r.Intn(len(byHalves) - 1)
			byHalves[at] = joined(kinds, byHalves[at], byHalves[at+1])
			byHalves = slices.Delete(byHalves, at+1, at+2)
		}
		want := diff(t, line[0], line[len(line)-1])
		for _, whole := range [][]byte{fromFront, fromBack, byHalves[0]} {
			wantBytes(t, "P10: all the way", whole, want)
		}
	}
}

// TestTakenHasTheForm: of E2, what Apply takes has the form, and is told again by Diff.
func TestTakenHasTheForm(t *testing.T) {
	taken, refused := 0, 0
	for seed := range 300 {
		r := rand.New(rand.NewSource(int64(3000 + seed)))
		kinds := someKinds(r)
		worlds := grownWorlds(t, r, kinds, 4)
		m := model{}.between(worlds[1], worlds[3])
		for range 20 {
			d := m.turn(r, kinds).bytes()
			b, bad := delta.Apply(worlds[1], d)
			if bad != api.OK {
				refused++
				continue
			}
			taken++
			if changes, err := delta.Changes(kinds, d); err != nil {
				t.Errorf("E2: Apply takes % x, Changes does not: %v, %v", d, changes, err)
			}
			wantBytes(t, "E2: what Apply takes", diff(t, worlds[1], b), d)
		}
	}
	if taken < 100 || refused < 100 {
		t.Errorf("the test's own deltas: %d taken, %d refused", taken, refused)
	}
}

// done does to a world's rows what is told to people.
func done(rows []api.Row, changes []api.Change) []api.Row {
	for _, c := range changes {
		at := slices.IndexFunc(rows, func(row api.Row) bool { return row.E == c.E })
		switch {
		case c.Gone:
			rows = slices.Delete(rows, at, at+1)
			continue
		case c.New:
			at = len(rows)
			rows = append(rows, api.Row{E: c.E})
		}
		parts := slices.DeleteFunc(rows[at].Parts, func(part api.Part) bool {
			return slices.Contains(c.Lost, part.Kind) || slices.ContainsFunc(c.Parts, func(other api.Part) bool { return other.Kind == part.Kind })
		})
		parts = append(parts, c.Parts...)
		slices.SortFunc(parts, func(a, b api.Part) int { return a.Kind - b.Kind })
		rows[at].Parts = parts
	}
	slices.SortFunc(rows, func(a, b api.Row) int { return a.E.Index - b.E.Index })
	return rows
}

// TestChangesTellAll: of E3, who knows the rows of the one world knows by the changes those of the other one.
func TestChangesTellAll(t *testing.T) {
	for seed := range 200 {
		r := rand.New(rand.NewSource(int64(4000 + seed)))
		kinds := someKinds(r)
		worlds := grownWorlds(t, r, kinds, 5)
		for _, a := range worlds {
			b := worlds[r.Intn(len(worlds))]
			changes, err := delta.Changes(kinds, diff(t, a, b))
			if err != nil {
				t.Fatalf("E3: Changes of what Diff answers: %v", err)
			}
			if got := done(a.Rows(), changes); !slices.EqualFunc(got, b.Rows(), sameRow) {
				t.Errorf("E3: %v and %s make %v, want %v", a.Rows(), told(changes), got, b.Rows())
			}
		}
	}
}

// TestOrderOfPartsDoesNotShow: of E1, two worlds of one Snapshot have one delta, however their parts came.
func TestOrderOfPartsDoesNotShow(t *testing.T) {
	one, other := fresh(t, three()), fresh(t, three())
	one.Spawn(list(p(3), p(2, 7), p(1, 5, 6)))
	one.Spawn(nil)
	other.Spawn(nil)
	other.Spawn(list(p(2, 1)))
	other.Add(e(0, 1), p(2, 1))
	other.Add(e(0, 1), p(1, 5, 6))
	other.Set(e(0, 1), p(2, 7))
	other.Remove(e(1, 1), 2)
	other.Add(e(0, 1), p(3))
	for _, c := range []*world.World{fresh(t, three()), loaded(t, three(), pool(gens(1)), r(0, 1, p(2, 8)))} {
		wantBytes(t, "E1: from another one", diff(t, c, one), diff(t, c, other))
		wantBytes(t, "E1: to another one", diff(t, one, c), diff(t, other, c))
	}
	wantChanges(t, three(), diff(t, one, other))
}

// TestSameAgain: P4 of DOC.md, a call asked again answers the same, whatever was asked between.
func TestSameAgain(t *testing.T) {
	r := rand.New(rand.NewSource(7))
	kinds := twelve()
	worlds := grownWorlds(t, r, kinds, 30)
	ask := func() string {
		text := ""
		for i := range worlds[2:] {
			d, next := diff(t, worlds[i], worlds[i+1]), diff(t, worlds[i+1], worlds[i+2])
			changes, err := delta.Changes(kinds, d)
			both, bad := delta.Join(kinds, d, next)
			text += fmt.Sprintf("%x %s %v %x %v\n", d, told(changes), err, both, bad)
		}
		return text
	}
	first := ask()
	for range 5 {
		if got := ask(); got != first {
			t.Fatalf("P4: another answer: %s, want %s", got, first)
		}
	}
}
