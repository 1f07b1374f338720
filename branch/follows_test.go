package branch_test

import (
	"fmt"
	"math/rand"
	"testing"

	"hindcast/api"
	"hindcast/branch"
)

// bush is a tree of many branches, and the ticks that lead to the last frame of each one.
func bush(t testing.TB, every, back int) (*branch.Tree, [][]api.Tick) {
	t.Helper()
	b := grown(t, every, back, 10)
	ticks := [][]api.Tick{ticksOf(from(1, 10)...)}
	begin := func(of, f int, more ...int) {
		n := len(ticks)
		wantFork(t, b, of, f, n)
		record(t, b, n, more...)
		ticks = append(ticks, append(ticks[of][:f:f], ticksOf(more...)...))
	}
	begin(0, 6, 106, 107, 108)
	begin(1, 8, 208)
	begin(1, 3)
	begin(3, 3, 403, 404, 405, 406, 407)
	begin(0, 10)
	wantReplace(t, b, 2, 4, [][]api.Input{says(80), nil, says(81)}, 6)
	ticks = append(ticks, append(ticks[2][:4:4], with(ticks[2][4], says(80)), with(ticks[2][5], nil), with(ticks[2][6], says(81))))
	begin(6, 5, 705)
	begin(0, 0, 801, 802)
	return b, ticks
}

// TestFolds: P9 of DOC.md (TopFolds), the world of a frame of a branch is the fold of steps over the ticks that lead there, whatever was sought.
func TestFolds(t *testing.T) {
	g := game(t, lively)
	for _, every := range []int{1, 2, 3, 7, 50} {
		for _, back := range []int{0, 1, 3, 50} {
			b, ticks := bush(t, every, back)
			var all [][]string
			for n := range ticks {
				all = append(all, fold(t, g, ticks[n]))
				wantLen(t, b, n, len(ticks[n]))
			}
			r := rand.New(rand.NewSource(int64(every*100 + back)))
			for range 400 {
				n := r.Intn(len(all))
				f := r.Intn(len(all[n]))
				if w, _, bad := b.Seek(n, f); bad != api.OK || string(w.Snapshot()) != all[n][f] {
					t.Fatalf("P9: every %d, back %d: the world of frame %d of branch %d is no fold, %v", every, back, f, n, bad)
				}
			}
		}
	}
}

// TestApart: P9 of DOC.md (TopApart), what happens on one branch changes nothing on another one: not its frames, nor what its next Seek costs.
func TestApart(t *testing.T) {
	for what, happens := range map[string]func(b *branch.Tree, n int){
		"a Record":               func(b *branch.Tree, n int) { b.Record(n, tickOf(300), nil) },
		"a Record that is wrong": func(b *branch.Tree, n int) { b.Record(n, tickOf(300), []int{7}) },
		"a Fork":                 func(b *branch.Tree, n int) { b.Fork(n, 2) },
		"a Replace":              func(b *branch.Tree, n int) { b.Replace(n, 1, [][]api.Input{says(1), says(2), says(3)}) },
		"a Replace that is not":  func(b *branch.Tree, n int) { b.Replace(n, 1, [][]api.Input{make([]api.Input, 33)}) },
		"a Drop":                 func(b *branch.Tree, n int) { b.Drop(n) },
		"Seeks": func(b *branch.Tree, n int) {
			for _, f := range []int{0, 1, 2, 5, 4, 3, -1, 9} {
				if w, _, bad := b.Seek(n, f); bad == api.OK {
					spoilWorld(w)
				}
			}
		},
	} {
		for at := range 9 {
			b, ticks := bush(t, 3, 2)
			beside, _ := bush(t, 3, 2)
			happens(b, at)
			for n := range ticks {
				if n == at {
					continue
				}
				if got, want := apart(b, n), apart(beside, n); got != want {
					t.Fatalf("P9: %s on branch %d changes branch %d: %s, want %s", what, at, n, got, want)
				}
			}
		}
	}
}

// apart tells all of a branch alone, and goes about in it.
func apart(b *branch.Tree, n int) string {
	last, bad := b.Len(n)
	parent, f, worse := b.Parent(n)
	text := fmt.Sprint(last, bad, parent, f, worse)
	for i := range 2 * (last + 1) {
		w, c, bad := b.Seek(n, i*5%(last+1))
		text += fmt.Sprintf(" %x %v %v", w.Snapshot(), c, bad)
	}
	report, bad := b.Record(n, tickOf(500), nil)
	return text + fmt.Sprint(report, bad)
}

// TestCosts: P9 of DOC.md (TopCosts), a seek costs at most one load, and one step less than the distance of keyframes.
func TestCosts(t *testing.T) {
	for _, every := range []int{1, 2, 3, 5, 50} {
		for _, back := range []int{0, 2, 50} {
			b, ticks := bush(t, every, back)
			for n := range ticks {
				for from := range len(ticks[n]) + 1 {
					for to := range len(ticks[n]) + 1 {
						b.Seek(n, from)
						_, got, bad := b.Seek(n, to)
						if bad != api.OK || got.Loads > 1 || got.Loads < 0 || got.Undos < 0 || got.Plays < 0 || got.Undos+got.Plays > every-1 {
							t.Fatalf("P9: every %d, back %d: Seek(%d, %d) from %d costs %v, %v", every, back, n, to, from, got, bad)
						}
					}
				}
			}
		}
	}
}

// TestMeetIsOneWorld: what follows of N7: up to Meet the worlds of two branches are one; and in this game no frame behind it is, where each of the two went on by itself.
func TestMeetIsOneWorld(t *testing.T) {
	g := game(t, lively)
	b, ticks := bush(t, 3, 2)
	for one := range ticks {
		for other := range ticks {
			m, bad := b.Meet(one, other)
			lines := [2][]string{fold(t, g, ticks[one]), fold(t, g, ticks[other])}
			if bad != api.OK || m >= len(lines[0]) || m >= len(lines[1]) {
				t.Fatalf("N7: Meet(%d, %d): %d, %v, which not both have", one, other, m, bad)
			}
			for f := range min(len(lines[0]), len(lines[1])) {
				w, _, _ := b.Seek(one, f)
				x, _, _ := b.Seek(other, f)
				same := string(w.Snapshot()) == string(x.Snapshot())
				if same != (lines[0][f] == lines[1][f]) || f <= m && !same {
					t.Errorf("N7: Meet(%d, %d) is %d; the worlds of frame %d are one: %v", one, other, m, f, same)
				}
				if f > m && same {
					t.Errorf("N7: the test's own branches %d and %d are one behind %d, where they meet", one, other, m)
				}
			}
		}
	}
}
