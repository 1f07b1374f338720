package branch

import (
	"slices"
	"testing"

	"hindcast/api"
	"hindcast/code"
	"hindcast/frame"
)

// twoSystems is a tree of a game with two systems that run in any order, so that there are picks.
func twoSystems(t *testing.T) *Tree {
	t.Helper()
	idle := func(name string) api.System {
		return api.System{Run: api.Routine{Name: name, Code: []api.Instr{{Op: code.Stop}}}}
	}
	g, bad := frame.New([]api.Kind{{Name: "Mark"}}, api.Program{Systems: []api.System{idle("A"), idle("B")}})
	if bad != api.OK {
		t.Fatalf("the test's own game: %v", bad)
	}
	b, bad := New(g, 3, 2)
	if bad != api.OK {
		t.Fatalf("N1: %v", bad)
	}
	return b
}

// TestPicksAreRecorded: N4, behind a Replace the new branch's history tells the picks of the frames that were replayed; by no call of a tree they can be seen.
func TestPicksAreRecorded(t *testing.T) {
	b := twoSystems(t)
	all := [][]int{{1, 0}, nil, {0, 0}, {1, 0}}
	for f, picks := range all {
		if _, bad := b.Record(0, api.Tick{Seed: int64(f)}, picks); bad != api.OK {
			t.Fatalf("N2: frame %d: %v", f+1, bad)
		}
	}
	b.Replace(0, 1, [][]api.Input{{{Value: 5}}, nil, {{Value: 6}}})
	x, _ := b.branches.find(1)
	for f, picks := range all {
		tick, got, bad := x.history.Tick(f + 1)
		if bad != api.OK || !slices.Equal(got, picks) || tick.Seed != int64(f) {
			t.Errorf("N4: frame %d was replayed with %v, %v, %v, want %v", f+1, tick, got, bad, picks)
		}
	}
}

// TestMeetsAreLetGo: N5, nothing of a branch that was dropped is kept with those that began behind it.
func TestMeetsAreLetGo(t *testing.T) {
	b := twoSystems(t)
	for range 19 {
		b.Fork(0, 0)
	}
	for n := 1; n < 19; n++ {
		b.Drop(n)
	}
	for _, x := range b.branches.things {
		for _, n := range x.meets.numbers {
			if _, ok := b.branches.find(n); !ok {
				t.Errorf("N5: a meet with the branch %d, which was dropped, is kept", n)
			}
		}
	}
}
