package branch_test

import (
	"fmt"
	"math"
	"slices"
	"strings"
	"testing"

	"hindcast/api"
	"hindcast/branch"
	"hindcast/check"
	"hindcast/compile"
	"hindcast/frame"
	"hindcast/history"
	"hindcast/syntax"
	"hindcast/world"
)

func e(index, gen int) api.Entity { return api.Entity{Index: index, Gen: gen} }

func p(kind int, values ...int64) api.Part { return api.Part{Kind: kind, Values: values} }

func spawn(parts ...api.Part) api.Command { return api.Command{Op: api.OpSpawn, Parts: parts} }

func cost(loads, undos, plays int) api.Cost {
	return api.Cost{Loads: loads, Undos: undos, Plays: plays}
}

// says is an input, by which Say goes.
func says(value int64) []api.Input { return []api.Input{{Value: value}} }

// three are the kinds of all games here: 1 is Pos, 2 is Mark, 3 is Life.
func three() []api.Kind {
	return []api.Kind{{Name: "Pos", Fields: []string{"x", "y"}}, {Name: "Mark"}, {Name: "Life", Fields: []string{"n"}}}
}

// lively is a game of which no two frames are alike: all are hurt by chance, by inputs and by the frame's number, come, go and are cut off. It has two stages, the first one of two systems.
const lively = `
system Say writes Pos { Pos.x = Pos.x * 3 + input(0, 0) + tick; Pos.y = Pos.y + rand(9); }
system Age writes Life { Life.n = Life.n - 1; if Life.n <= 0 { die; } if rand(4) == 0 { spawn Pos{x: me, y: tick}, Life{n: 2 + rand(6)}; } }
system Ring with Mark reads Pos { emit Pos.x, rand(10); if rand(6) == 0 { remove Mark; } if Pos.y % 5 == 3 { while 1 == 1 { } } }
`

func game(t testing.TB, source string) *frame.Game {
	t.Helper()
	tree, err := syntax.Parse(source)
	if err != nil {
		t.Fatalf("the test's own source: %v", err)
	}
	c, err := check.Check(tree, three())
	if err != nil {
		t.Fatalf("the test's own source: %v", err)
	}
	program, bad := compile.Compile(c)
	if bad != api.OK {
		t.Fatalf("the test's own source: %v", bad)
	}
	g, bad := frame.New(three(), program)
	if bad != api.OK {
		t.Fatalf("the test's own game: %v", bad)
	}
	return g
}

// tickOf is a tick that stands for a number: no two of them are alike.
func tickOf(n int) api.Tick {
	x := int64(n)
	return api.Tick{
		Seed:   x * 7,
		Inputs: []api.Input{{Value: x}, {Player: 1, Key: n, Value: -x}},
		Asks: []api.Command{
			spawn(p(1, x, -x), p(3, 3+x%4)),
			{Op: api.OpAdd, E: e(n%3, 1), Kind: 2},
			{Op: api.OpDespawn, E: e(n%7, 1+n%2)},
			{Op: api.OpAdd, E: e(0, 1), Kind: 1, Values: []int64{x, x, x}},
		},
	}
}

// picksOf are picks that go in the lively game, or none.
func picksOf(n int) []int {
	if n%3 == 0 {
		return nil
	}
	return []int{n % 2, 0, 0}
}

// with is a tick with other inputs.
func with(tick api.Tick, inputs []api.Input) api.Tick {
	tick.Inputs = inputs
	return tick
}

// ticksOf are the ticks of these numbers.
func ticksOf(numbers ...int) []api.Tick {
	var ticks []api.Tick
	for _, n := range numbers {
		ticks = append(ticks, tickOf(n))
	}
	return ticks
}

// from are the numbers from one to another one.
func from(first, last int) []int {
	var numbers []int
	for n := first; n <= last; n++ {
		numbers = append(numbers, n)
	}
	return numbers
}

func newTree(t testing.TB, g *frame.Game, every, back int) *branch.Tree {
	t.Helper()
	b, bad := branch.New(g, every, back)
	if bad != api.OK || b == nil {
		t.Fatalf("N1: New(%d, %d): %v", every, back, bad)
	}
	return b
}

// record records frames with the ticks and picks of these numbers.
func record(t testing.TB, b *branch.Tree, of int, numbers ...int) {
	t.Helper()
	for _, n := range numbers {
		if _, bad := b.Record(of, tickOf(n), picksOf(n)); bad != api.OK {
			t.Fatalf("N2: Record(%d): %v", of, bad)
		}
	}
}

// grown is a tree whose branch 0 has so many frames.
func grown(t testing.TB, every, back, frames int) *branch.Tree {
	t.Helper()
	b := newTree(t, game(t, lively), every, back)
	record(t, b, 0, from(1, frames)...)
	return b
}

// fold are the snapshots of the worlds to which ticks lead, the one of frame 0 first, made without a tree.
func fold(t testing.TB, g *frame.Game, ticks []api.Tick) []string {
	t.Helper()
	w := g.Start()
	all := []string{string(w.Snapshot())}
	for i, tick := range ticks {
		next, _, bad := g.Step(w, i+1, tick, nil)
		if bad != api.OK {
			t.Fatalf("the test's own tick %d: %v", i+1, bad)
		}
		w = next
		all = append(all, string(w.Snapshot()))
	}
	return all
}

// wantFork forks, and holds the number against another one.
func wantFork(t testing.TB, b *branch.Tree, of, f, want int) {
	t.Helper()
	if got, bad := b.Fork(of, f); got != want || bad != api.OK {
		t.Fatalf("N3: Fork(%d, %d): %d, %v, want %d", of, f, got, bad, want)
	}
}

func wantReplace(t testing.TB, b *branch.Tree, of, f int, inputs [][]api.Input, want int) {
	t.Helper()
	if got, bad := b.Replace(of, f, inputs); got != want || bad != api.OK {
		t.Fatalf("N4: Replace(%d, %d) of %d: %d, %v, want %d", of, f, len(inputs), got, bad, want)
	}
}

func wantDrop(t testing.TB, b *branch.Tree, n int, want api.Errno) {
	t.Helper()
	if bad := b.Drop(n); bad != want {
		t.Fatalf("N5: Drop(%d): %v, want %v", n, bad, want)
	}
}

func wantSeek(t testing.TB, b *branch.Tree, n, f int, want api.Cost) {
	t.Helper()
	if w, got, bad := b.Seek(n, f); got != want || w == nil || bad != api.OK {
		t.Errorf("N6: Seek(%d, %d) costs %v, %v, want %v", n, f, got, bad, want)
	}
}

func wantLen(t testing.TB, b *branch.Tree, n, want int) {
	t.Helper()
	if got, bad := b.Len(n); got != want || bad != api.OK {
		t.Errorf("N6: Len(%d): %d, %v, want %d", n, got, bad, want)
	}
}

func wantParent(t testing.TB, b *branch.Tree, n, parent, f int) {
	t.Helper()
	if got, at, bad := b.Parent(n); got != parent || at != f || bad != api.OK {
		t.Errorf("N7: Parent(%d): %d, %d, %v, want %d, %d", n, got, at, bad, parent, f)
	}
}

func wantAll(t testing.TB, b *branch.Tree, want ...int) {
	t.Helper()
	if got := b.All(); !slices.Equal(got, want) {
		t.Errorf("N7: All: %v, want %v", got, want)
	}
}

func wantMeet(t testing.TB, b *branch.Tree, one, other, want int) {
	t.Helper()
	for _, pair := range [][2]int{{one, other}, {other, one}} {
		if got, bad := b.Meet(pair[0], pair[1]); got != want || bad != api.OK {
			t.Errorf("N7: Meet(%d, %d): %d, %v, want %d", pair[0], pair[1], got, bad, want)
		}
	}
}

// wantWorlds holds all frames of a branch against snapshots, from the last one to the first, and then otherwise.
func wantWorlds(t testing.TB, what string, b *branch.Tree, n int, want []string) {
	t.Helper()
	wantLen(t, b, n, len(want)-1)
	for _, by := range []int{1, 3} {
		for i := len(want) - 1; i >= 0; i-- {
			f := i * by % len(want)
			if w, _, bad := b.Seek(n, f); bad != api.OK || string(w.Snapshot()) != want[f] {
				t.Fatalf("N6: %s: the world of frame %d of branch %d is another one, %v", what, f, n, bad)
			}
		}
	}
}

// told writes all that a tree tells of the branches up to a number, without going anywhere.
func told(b *branch.Tree, most int) string {
	var text strings.Builder
	fmt.Fprintln(&text, b.All())
	for n := -1; n <= most; n++ {
		last, bad := b.Len(n)
		parent, f, worse := b.Parent(n)
		fmt.Fprintln(&text, n, last, bad, parent, f, worse)
		for m := -1; m <= most; m++ {
			meet, bad := b.Meet(n, m)
			fmt.Fprint(&text, meet, bad, " ")
		}
	}
	return text.String()
}

// wantNone holds that there is no such branch, whatever is asked of it, and that asking changes nothing.
func wantNone(t testing.TB, b *branch.Tree, n int) {
	t.Helper()
	was := told(b, 30)
	for _, f := range []int{0, 1, -1, math.MaxInt} {
		if got, bad := b.Fork(n, f); got != 0 || bad != api.ErrBranch {
			t.Errorf("N3: Fork(%d, %d) of no branch: %d, %v", n, f, got, bad)
		}
		if got, bad := b.Replace(n, f, [][]api.Input{make([]api.Input, 33)}); got != 0 || bad != api.ErrBranch {
			t.Errorf("N4: Replace(%d, %d) of no branch: %d, %v", n, f, got, bad)
		}
		if w, c, bad := b.Seek(n, f); w != nil || c != (api.Cost{}) || bad != api.ErrBranch {
			t.Errorf("N6: Seek(%d, %d) of no branch: %v, %v, %v", n, f, w, c, bad)
		}
	}
	for _, tick := range []api.Tick{{}, {Inputs: make([]api.Input, 33)}} {
		for _, picks := range [][]int{nil, {9}} {
			if got, bad := b.Record(n, tick, picks); fmt.Sprint(got) != fmt.Sprint(api.Report{}) || bad != api.ErrBranch {
				t.Errorf("N2: Record(%d) of no branch: %v, %v", n, got, bad)
			}
		}
	}
	wantDrop(t, b, n, api.ErrBranch)
	if got, bad := b.Len(n); got != 0 || bad != api.ErrBranch {
		t.Errorf("N6: Len(%d) of no branch: %d, %v", n, got, bad)
	}
	if got, f, bad := b.Parent(n); got != 0 || f != 0 || bad != api.ErrBranch {
		t.Errorf("N7: Parent(%d) of no branch: %d, %d, %v", n, got, f, bad)
	}
	for _, pair := range [][2]int{{n, 0}, {0, n}, {n, n}, {n, n + 1}, {n - 1, n}} {
		if got, bad := b.Meet(pair[0], pair[1]); got != 0 || bad != api.ErrBranch {
			t.Errorf("N7: Meet(%d, %d) of no branch: %d, %v", pair[0], pair[1], got, bad)
		}
	}
	if told(b, 30) != was {
		t.Errorf("P2: asking for the branch %d, which is not there, changes something", n)
	}
}

// TestNew: N1, which numbers are taken, and what a tree is at first.
func TestNew(t *testing.T) {
	g := game(t, lively)
	for _, row := range []struct {
		g           *frame.Game
		every, back int
		want        api.Errno
	}{
		{g, 1, 0, api.OK}, {g, 3, 2, api.OK}, {g, 5000, 5000, api.OK}, {g, 5000, 0, api.OK}, {g, 1, 5000, api.OK},
		{nil, 3, 2, api.ErrArg}, {nil, 0, -1, api.ErrArg},
		{g, 0, 2, api.ErrArg}, {g, -1, 2, api.ErrArg}, {g, 5001, 2, api.ErrArg}, {g, math.MinInt, 2, api.ErrArg}, {g, math.MaxInt, 2, api.ErrArg},
		{g, 3, -1, api.ErrArg}, {g, 3, 5001, api.ErrArg}, {g, 3, math.MinInt, api.ErrArg}, {g, 3, math.MaxInt, api.ErrArg},
	} {
		b, bad := branch.New(row.g, row.every, row.back)
		if bad != row.want || (b == nil) != (bad != api.OK) {
			t.Errorf("N1: New(%v, %d, %d): %v, want %v", row.g != nil, row.every, row.back, bad, row.want)
		}
		if b == nil {
			continue
		}
		wantAll(t, b, 0)
		wantParent(t, b, 0, -1, 0)
		wantMeet(t, b, 0, 0, 0)
		wantWorlds(t, "in a new tree", b, 0, []string{string(g.Start().Snapshot())})
		wantSeek(t, b, 0, 0, api.Cost{})
		for _, n := range []int{-1, 1, 2, 20, math.MinInt, math.MaxInt} {
			wantNone(t, b, n)
		}
	}
}

// TestRecord: N2, what Record answers is what Step does of the branch's last world, wherever one is in it.
func TestRecord(t *testing.T) {
	g := game(t, lively)
	b := newTree(t, g, 3, 2)
	wantFork(t, b, 0, 0, 1)
	ends := []*world.World{g.Start(), g.Start()}
	seen := api.Report{}
	for f := 1; f <= 24; f++ {
		for n := range ends {
			x := f*2 + n
			next, want, _ := g.Step(ends[n], f, tickOf(x), picksOf(x))
			got, bad := b.Record(n, tickOf(x), picksOf(x))
			if bad != api.OK || fmt.Sprint(got) != fmt.Sprint(want) {
				t.Fatalf("N2: Record(%d) of frame %d: %v, %v, want %v", n, f, got, bad, want)
			}
			wantLen(t, b, n, f)
			wantSeek(t, b, n, f, api.Cost{})
			b.Seek(n, f*5%f)
			ends[n] = next
			seen = api.Report{Events: append(seen.Events, got.Events...), Failed: append(seen.Failed, got.Failed...), Spawned: append(seen.Spawned, got.Spawned...), Refused: seen.Refused + got.Refused}
		}
	}
	if len(seen.Events) == 0 || len(seen.Failed) == 0 || len(seen.Spawned) < 60 || seen.Refused == 0 {
		t.Errorf("the test's own game does too little: %v", seen)
	}
}

// TestRecordRefuses: N2, the errors of history.Record; nothing is changed then, and one stays where one is.
func TestRecordRefuses(t *testing.T) {
	b := grown(t, 3, 0, 7)
	wantFork(t, b, 0, 5, 1)
	for _, row := range []struct {
		tick  api.Tick
		picks []int
		want  api.Errno
	}{
		{api.Tick{Inputs: make([]api.Input, 33)}, nil, api.ErrArg},
		{api.Tick{Asks: make([]api.Command, 201)}, []int{9}, api.ErrArg},
		{tickOf(8), make([]int, 17), api.ErrArg},
		{tickOf(8), []int{0}, api.ErrPick},
		{tickOf(8), []int{2, 0, 0}, api.ErrPick},
	} {
		for n := range 2 {
			b.Seek(n, 4)
			was := told(b, 3)
			got, bad := b.Record(n, row.tick, row.picks)
			if bad != row.want || fmt.Sprint(got) != fmt.Sprint(api.Report{}) {
				t.Errorf("N2: Record(%d) of what may not be: %v, %v, want %v", n, got, bad, row.want)
			}
			wantSeek(t, b, n, 5, cost(0, 0, 1))
			if told(b, 3) != was {
				t.Errorf("P2: a Record that is refused changes something")
			}
		}
	}
}

// TestExample: N1 to N7, the chapter's examples.
func TestExample(t *testing.T) {
	b := grown(t, 3, 2, 5)
	wantFork(t, b, 0, 3, 1)
	record(t, b, 1, 40)
	wantFork(t, b, 1, 2, 2)
	wantFork(t, b, 1, 4, 3)
	wantParent(t, b, 2, 1, 2)
	for _, row := range [][3]int{{1, 2, 2}, {0, 2, 2}, {0, 3, 3}, {1, 3, 4}, {2, 3, 2}} {
		wantMeet(t, b, row[0], row[1], row[2])
	}
	wantDrop(t, b, 1, api.OK)
	wantMeet(t, b, 2, 3, 2)
	wantParent(t, b, 2, 1, 2)
	if _, _, bad := b.Seek(1, 0); bad != api.ErrBranch {
		t.Errorf("N6: Seek(1, 0) of one that was dropped: %v", bad)
	}
	wantDrop(t, b, 0, api.ErrState)
	if _, bad := b.Fork(0, 6); bad != api.ErrFrame {
		t.Errorf("N3: Fork(0, 6): %v", bad)
	}
	wantFork(t, b, 0, 0, 4)

	g := game(t, lively)
	two := [][]api.Input{says(50), says(60)}
	wantReplace(t, b, 0, 3, two, 5)
	wantWorlds(t, "the example", b, 5, fold(t, g, append(ticksOf(1, 2, 3), with(tickOf(4), two[0]), with(tickOf(5), two[1]))))
	wantReplace(t, b, 0, 3, two[:1], 6)
	wantWorlds(t, "the example", b, 6, fold(t, g, append(ticksOf(1, 2, 3), with(tickOf(4), two[0]))))
}

// TestFork: N3, a branch has the frames of the other one up to where it began, from the first to the last, and goes on by itself.
func TestFork(t *testing.T) {
	const frames = 7
	g := game(t, lively)
	all := fold(t, g, ticksOf(from(1, frames)...))
	for _, back := range []int{0, 2, 9} {
		b := grown(t, 3, back, frames)
		for f := range frames + 1 {
			n := f + 1
			wantFork(t, b, 0, f, n)
			wantParent(t, b, n, 0, f)
			wantAll(t, b, from(0, n)...)
			wantSeek(t, b, n, f, api.Cost{})
			wantWorlds(t, "a fork", b, n, all[:f+1])
			record(t, b, n, 50, 51)
			wantWorlds(t, "a fork that went on", b, n, fold(t, g, ticksOf(append(from(1, f), 50, 51)...)))
			wantWorlds(t, "what was forked", b, 0, all)
		}
	}
}

// TestForkStays: N3, N4 and N6, one stays where one is in a branch of which another one begins.
func TestForkStays(t *testing.T) {
	for _, begin := range []func(b *branch.Tree) (int, api.Errno){
		func(b *branch.Tree) (int, api.Errno) { return b.Fork(0, 2) },
		func(b *branch.Tree) (int, api.Errno) { return b.Fork(0, 9) },
		func(b *branch.Tree) (int, api.Errno) { return b.Replace(0, 2, nil) },
		func(b *branch.Tree) (int, api.Errno) { return b.Replace(0, 2, make([][]api.Input, 9)) },
	} {
		b := grown(t, 20, 3, 9)
		b.Seek(0, 5)
		n, _ := begin(b)
		wantSeek(t, b, 0, 6, cost(0, 0, 1))
		last, _ := b.Len(n)
		wantSeek(t, b, n, last, api.Cost{})
		b.Seek(n, 0)
		wantSeek(t, b, 0, 7, cost(0, 0, 1))
		wantSeek(t, b, n, 1, cost(0, 0, 1))
	}
}

// TestForkRefuses: N3, the errors, in their order; the number was not given then.
func TestForkRefuses(t *testing.T) {
	b := grown(t, 3, 2, 4)
	wantFork(t, b, 0, 2, 1)
	frames := func() {
		for _, row := range [][2]int{{0, -1}, {0, 5}, {0, math.MaxInt}, {0, math.MinInt}, {1, 3}, {1, -1}} {
			was := told(b, 30)
			if n, bad := b.Fork(row[0], row[1]); n != 0 || bad != api.ErrFrame {
				t.Errorf("N3: Fork(%d, %d): %d, %v, want ErrFrame", row[0], row[1], n, bad)
			}
			if n, bad := b.Replace(row[0], row[1], [][]api.Input{make([]api.Input, 33)}); n != 0 || bad != api.ErrFrame {
				t.Errorf("N4: Replace(%d, %d): %d, %v, want ErrFrame", row[0], row[1], n, bad)
			}
			if told(b, 30) != was {
				t.Errorf("P2: a Fork or Replace that is refused changes something")
			}
		}
	}
	frames()
	wantNone(t, b, 2)
	for n := 2; n < 20; n++ {
		wantFork(t, b, n-1, 2, n)
	}
	frames()
	wantNone(t, b, 20)
	for range 3 {
		if n, bad := b.Fork(1, 2); n != 0 || bad != api.ErrFull {
			t.Errorf("N3: the twenty-first branch: %d, %v", n, bad)
		}
		for _, inputs := range [][][]api.Input{nil, {make([]api.Input, 33)}} {
			if n, bad := b.Replace(1, 2, inputs); n != 0 || bad != api.ErrFull {
				t.Errorf("N4: the twenty-first branch: %d, %v", n, bad)
			}
		}
	}
	wantAll(t, b, from(0, 19)...)
	wantDrop(t, b, 13, api.OK)
	wantFork(t, b, 0, 3, 20)
	wantDrop(t, b, 20, api.OK)
	wantReplace(t, b, 0, 3, nil, 21)
	wantAll(t, b, append(append(from(0, 12), from(14, 19)...), 21)...)
}

// TestReplace: N4, the inputs are others, all else of the ticks stays; the frames go as far as both do.
func TestReplace(t *testing.T) {
	const frames = 7
	g := game(t, lively)
	most := slices.Repeat(says(3), api.MaxInputs)
	for _, row := range []struct {
		what   string
		f      int
		inputs [][]api.Input
		frames int
	}{
		{"nothing", 3, nil, 3},
		{"no lists", 3, [][]api.Input{}, 3},
		{"one list", 3, [][]api.Input{says(70)}, 4},
		{"a list of nothing, and none", 3, [][]api.Input{{}, nil, says(4)}, 6},
		{"as many lists as frames", 3, [][]api.Input{says(70), says(71), says(72), says(73)}, 7},
		{"more lists than frames", 3, [][]api.Input{says(70), nil, nil, nil, says(71), nil, says(72)}, 7},
		{"from the frame 0 on", 0, [][]api.Input{nil, nil, says(5), nil, nil, says(6), nil}, 7},
		{"from the last frame but one", 6, [][]api.Input{says(70), says(71)}, 7},
		{"from the last frame", 7, [][]api.Input{says(70)}, 7},
		{"as many inputs as may be", 4, [][]api.Input{most, most, most, most}, 7},
		{"the inputs that were", 2, [][]api.Input{tickOf(3).Inputs, tickOf(4).Inputs, tickOf(5).Inputs, tickOf(6).Inputs, tickOf(7).Inputs}, 7},
	} {
		for _, back := range []int{0, 2, 9} {
			b := grown(t, 3, back, frames)
			wantReplace(t, b, 0, row.f, row.inputs, 1)
			ticks := ticksOf(from(1, frames)...)
			for i := row.f; i < row.frames; i++ {
				ticks[i].Inputs = row.inputs[i-row.f]
			}
			wantSeek(t, b, 1, row.frames, api.Cost{})
			wantWorlds(t, row.what, b, 1, fold(t, g, ticks[:row.frames]))
			wantWorlds(t, "what "+row.what+" was replaced of", b, 0, fold(t, g, ticksOf(from(1, frames)...)))
			wantParent(t, b, 1, 0, row.f)
			wantMeet(t, b, 0, 1, row.f)
			record(t, b, 1, 60)
			wantWorlds(t, row.what+", gone on", b, 1, fold(t, g, append(ticks[:row.frames:row.frames], tickOf(60))))
		}
	}
}

// TestReplaceOfReplaced: N4, what a branch's history tells of a frame is its own: with the inputs that were put there.
func TestReplaceOfReplaced(t *testing.T) {
	g := game(t, lively)
	b := grown(t, 4, 3, 6)
	wantReplace(t, b, 0, 1, [][]api.Input{says(20), says(30), says(40), says(50), says(60)}, 1)
	wantReplace(t, b, 1, 3, [][]api.Input{says(41), says(51)}, 2)
	wantReplace(t, b, 2, 1, [][]api.Input{says(22)}, 3)
	wantDrop(t, b, 1, api.OK)
	one, two, three := tickOf(1), with(tickOf(2), says(20)), with(tickOf(3), says(30))
	wantWorlds(t, "replaced twice", b, 2, fold(t, g, []api.Tick{one, two, three, with(tickOf(4), says(41)), with(tickOf(5), says(51))}))
	wantWorlds(t, "replaced thrice", b, 3, fold(t, g, []api.Tick{one, with(tickOf(2), says(22))}))
}

// TestReplaceRefuses: N4, a list of too many inputs, also one for which there is no frame; there is no new branch, and its number was not given.
func TestReplaceRefuses(t *testing.T) {
	b := grown(t, 3, 2, 7)
	b.Seek(0, 4)
	long := make([]api.Input, 33)
	for _, row := range []struct {
		f      int
		inputs [][]api.Input
	}{
		{3, [][]api.Input{long}}, {3, [][]api.Input{long, nil, nil}}, {3, [][]api.Input{nil, long, nil}}, {3, [][]api.Input{nil, nil, nil, long}},
		{3, [][]api.Input{nil, nil, nil, nil, long}}, {7, [][]api.Input{long}}, {0, append(make([][]api.Input, 5000), long)}, {5, [][]api.Input{make([]api.Input, 5000)}},
	} {
		was := told(b, 3)
		if n, bad := b.Replace(0, row.f, row.inputs); n != 0 || bad != api.ErrArg {
			t.Errorf("N4: Replace(0, %d) of too many inputs: %d, %v", row.f, n, bad)
		}
		if told(b, 3) != was {
			t.Errorf("N4: a Replace of too many inputs changes something")
		}
		wantSeek(t, b, 0, 4, api.Cost{})
	}
	wantReplace(t, b, 0, 3, [][]api.Input{make([]api.Input, 32)}, 1)
	wantAll(t, b, 0, 1)
}

// TestDrop: N5, who is dropped is there no more; those that began of it stay, and no number comes twice.
func TestDrop(t *testing.T) {
	g := game(t, lively)
	b := grown(t, 3, 2, 6)
	wantFork(t, b, 0, 4, 1)
	record(t, b, 1, 80, 81)
	wantFork(t, b, 1, 5, 2)
	wantReplace(t, b, 1, 4, [][]api.Input{says(9)}, 3)
	wantDrop(t, b, 1, api.OK)
	wantNone(t, b, 1)
	wantAll(t, b, 0, 2, 3)
	wantWorlds(t, "whose parent was dropped", b, 2, fold(t, g, ticksOf(1, 2, 3, 4, 80)))
	wantWorlds(t, "whose parent was dropped", b, 3, fold(t, g, append(ticksOf(1, 2, 3, 4), with(tickOf(80), says(9)))))
	wantParent(t, b, 2, 1, 5)
	wantParent(t, b, 3, 1, 4)
	record(t, b, 2, 82)
	wantWorlds(t, "whose parent was dropped", b, 2, fold(t, g, ticksOf(1, 2, 3, 4, 80, 82)))
	wantWorlds(t, "of which one was dropped", b, 0, fold(t, g, ticksOf(from(1, 6)...)))
	for _, n := range []int{0, 0, -1, 4, 1} {
		wantDrop(t, b, n, map[bool]api.Errno{true: api.ErrState, false: api.ErrBranch}[n == 0])
	}
	wantDrop(t, b, 3, api.OK)
	wantDrop(t, b, 2, api.OK)
	wantAll(t, b, 0)
	wantFork(t, b, 0, 6, 4)
	for _, n := range []int{1, 2, 3, 5} {
		wantNone(t, b, n)
	}
}

// TestSeek: N6, the errors and costs are those of the branch's history; each branch has a place of its own.
func TestSeek(t *testing.T) {
	b := grown(t, 3, 2, 7)
	for _, row := range []struct {
		f    int
		want api.Cost
	}{{5, cost(1, 1, 0)}, {7, cost(1, 0, 1)}, {2, cost(1, 0, 2)}, {3, cost(1, 0, 0)}, {6, cost(1, 0, 0)}} {
		wantSeek(t, b, 0, row.f, row.want)
	}
	wantFork(t, b, 0, 4, 1)
	wantSeek(t, b, 0, 7, cost(0, 0, 1))
	wantSeek(t, b, 1, 3, cost(1, 0, 0))
	wantSeek(t, b, 1, 2, cost(0, 1, 0))
	wantSeek(t, b, 0, 6, cost(1, 0, 0))
	wantSeek(t, b, 1, 1, cost(1, 0, 1))
	for n, frames := range []int{7, 4} {
		for _, f := range []int{-1, frames + 1, math.MinInt, math.MaxInt} {
			if w, c, bad := b.Seek(n, f); w != nil || c != (api.Cost{}) || bad != api.ErrFrame {
				t.Errorf("N6: Seek(%d, %d): %v, %v, %v, want ErrFrame", n, f, w, c, bad)
			}
		}
	}
	wantSeek(t, b, 0, 6, api.Cost{})
	wantSeek(t, b, 1, 1, api.Cost{})
}

// TestSeekAsHistory: N6, a branch costs what a history costs in which all its frames were recorded, and of which nothing else was asked.
func TestSeekAsHistory(t *testing.T) {
	g := game(t, lively)
	for _, row := range [][4]int{{3, 2, 7, 5}, {4, 9, 11, 11}, {1, 0, 6, 3}, {5, 3, 12, 2}, {20, 20, 9, 6}} {
		every, back, last, f := row[0], row[1], row[2], row[3]
		b := grown(t, every, back, last)
		b.Seek(0, last/2)
		wantFork(t, b, 0, f, 1)
		record(t, b, 1, from(f+1, f+4)...)
		h, _ := history.New(g, every, back)
		for n := 1; n <= f+4; n++ {
			h.Record(tickOf(n), picksOf(n))
		}
		for i := range 60 {
			to := i * i * 7 % (f + 5)
			_, want, _ := h.Seek(to)
			wantSeek(t, b, 1, to, want)
		}
	}
}

// TestMeet: N7, branches of branches, as far as they are one; those that are dropped still count.
func TestMeet(t *testing.T) {
	b := grown(t, 3, 2, 9)
	for n, at := range [][2]int{{0, 6}, {1, 6}, {2, 2}, {2, 5}, {0, 8}, {5, 1}, {4, 4}, {3, 2}, {0, 0}, {0, 9}} { // 1 and on
		wantFork(t, b, at[0], at[1], n+1)
	}
	record(t, b, 1, 90, 91)
	wantFork(t, b, 1, 8, 11)
	meets := [][]int{ // of 0 and on, with each one from 0 on
		{9},
		{6, 8},
		{6, 6, 6},
		{2, 2, 2, 2},
		{5, 5, 5, 2, 5},
		{8, 6, 6, 2, 5, 8},
		{1, 1, 1, 1, 1, 1, 1},
		{4, 4, 4, 2, 4, 4, 1, 4},
		{2, 2, 2, 2, 2, 2, 1, 2, 2},
		{0, 0, 0, 0, 0, 0, 0, 0, 0, 0},
		{9, 6, 6, 2, 5, 8, 1, 4, 2, 0, 9},
		{6, 8, 6, 2, 5, 6, 1, 4, 2, 0, 6, 8},
	}
	holds := func() {
		all := b.All()
		for _, one := range all {
			for _, other := range all {
				wantMeet(t, b, one, other, meets[max(one, other)][min(one, other)])
			}
		}
	}
	holds()
	for _, n := range []int{2, 1, 5, 4, 7, 3} {
		wantDrop(t, b, n, api.OK)
		holds()
	}
	record(t, b, 0, 92)
	meets[0][0] = 10
	holds()
	wantFork(t, b, 11, 7, 12)
	meets = append(meets, []int{6, 7, 6, 2, 5, 6, 1, 4, 2, 0, 6, 7, 7})
	holds()
}
