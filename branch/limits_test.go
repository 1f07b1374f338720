package branch_test

import (
	"fmt"
	"math"
	"runtime"
	"slices"
	"testing"

	"hindcast/api"
	"hindcast/branch"
)

// TestMostFrames: N2 to N4, a branch has at most 5000 frames; those that begin of it go as far, and no further.
func TestMostFrames(t *testing.T) {
	const most = api.MaxFrames
	b := newTree(t, game(t, "system Say writes Pos { Pos.x = Pos.x + input(0, 0); }"), 1000, 3)
	b.Record(0, api.Tick{Asks: []api.Command{spawn(p(1, 0, 0))}}, nil)
	for range most - 1 {
		b.Record(0, api.Tick{Inputs: says(1)}, nil)
	}
	wantFork(t, b, 0, most, 1)
	wantFork(t, b, 0, most-1, 2)
	lists := slices.Repeat([][]api.Input{says(2)}, most+1)
	wantReplace(t, b, 0, 1, lists, 3)
	wantReplace(t, b, 0, most, lists, 4)
	wantReplace(t, b, 0, 0, lists[:most-1], 5)
	for n, want := range []int64{most - 1, most - 1, most - 2, 2 * (most - 1), most - 1, 2 * (most - 1)} {
		last, _ := b.Len(n)
		w, _, bad := b.Seek(n, last)
		if rows := fmt.Sprint(w.Rows()); bad != api.OK || rows != fmt.Sprintf("[{{0 1} [{1 [%d 0]}]}]", want) {
			t.Errorf("N3, N4: the last frame of branch %d: %s, %v, want %d", n, rows, bad, want)
		}
		if short := n == 2 || n == 5; last != most && !short || last != most-1 && short {
			t.Errorf("N3, N4: the branch %d has %d frames", n, last)
		}
		report, bad := b.Record(n, api.Tick{}, nil)
		if full := last == most; full != (bad == api.ErrFull) || !full != (bad == api.OK) {
			t.Errorf("N2: a frame behind %d of branch %d: %v, %v", last, n, report, bad)
		}
		report, bad = b.Record(n, api.Tick{Inputs: make([]api.Input, 33)}, []int{9})
		if bad != api.ErrFull || fmt.Sprint(report) != fmt.Sprint(api.Report{}) {
			t.Errorf("N2: a frame more than may be of branch %d: %v, %v", n, report, bad)
		}
		wantLen(t, b, n, most)
	}
}

// TestNumbersGoOn: N3 and N5, however many are dropped, no number comes twice, and there may be twenty.
func TestNumbersGoOn(t *testing.T) {
	b := newTree(t, game(t, ""), 3, 2)
	b.Record(0, api.Tick{}, nil)
	of := 0
	for n := 1; n <= 3000; n++ {
		wantFork(t, b, of, n%2, n)
		if n > 19 {
			if _, bad := b.Fork(0, 0); bad != api.ErrFull {
				t.Fatalf("N3: one more than twenty: %v", bad)
			}
			wantDrop(t, b, n-18, api.OK)
		} else if n == 19 {
			wantDrop(t, b, 1, api.OK)
		}
		b.Record(n, api.Tick{}, nil)
		of = n
	}
	wantAll(t, b, append([]int{0}, from(2983, 3000)...)...)
	wantMeet(t, b, 2999, 3000, 0)
	wantMeet(t, b, 0, 2983, 0)
	wantParent(t, b, 2983, 2982, 1)
	for _, n := range []int{1, 19, 2982, 3001, math.MaxInt, math.MinInt} {
		wantNone(t, b, n)
	}
}

// TestManyLists: N4, of very many lists none is too long, or the last one is.
func TestManyLists(t *testing.T) {
	b := grown(t, 3, 2, 4)
	lists := make([][]api.Input, 1000000)
	wantReplace(t, b, 0, 2, lists, 1)
	wantLen(t, b, 1, 4)
	lists[len(lists)-1] = make([]api.Input, 33)
	if n, bad := b.Replace(0, 2, lists); n != 0 || bad != api.ErrArg {
		t.Errorf("N4: the last one of very many lists is too long: %d, %v", n, bad)
	}
}

// held tells how many bytes are held by what a call makes.
func held(make func() *branch.Tree) (*branch.Tree, int64) {
	var was, is runtime.MemStats
	runtime.GC()
	runtime.ReadMemStats(&was)
	b := make()
	runtime.GC()
	runtime.ReadMemStats(&is)
	return b, int64(is.HeapAlloc) - int64(was.HeapAlloc)
}

// TestKeepsLittle: no more is kept than the promises need: branches that were dropped are let go, however many they were and whoever began of them.
func TestKeepsLittle(t *testing.T) {
	made := func(forks int) func() *branch.Tree {
		return func() *branch.Tree {
			b := grown(t, 3, 4, 60)
			of := 0
			for range forks {
				n, bad := b.Fork(of, 60)
				if bad != api.OK {
					t.Fatalf("N3: Fork(%d, 60): %v", of, bad)
				}
				b.Drop(of)
				of = n
			}
			return b
		}
	}
	few, little := held(made(2))
	many, much := held(made(3000))
	if much > little*2 {
		t.Errorf("N5: behind 3000 branches a tree holds %d bytes, behind 2 %d", much, little)
	}
	wantMeet(t, many, 0, 3000, 60)
	runtime.KeepAlive(few)
}
