package history_test

import (
	"fmt"
	"math"
	"strings"
	"testing"

	"hindcast/api"
	"hindcast/check"
	"hindcast/compile"
	"hindcast/frame"
	"hindcast/history"
	"hindcast/syntax"
	"hindcast/world"
)

func e(index, gen int) api.Entity { return api.Entity{Index: index, Gen: gen} }

func p(kind int, values ...int64) api.Part { return api.Part{Kind: kind, Values: values} }

func spawn(parts ...api.Part) api.Command { return api.Command{Op: api.OpSpawn, Parts: parts} }

func load(f int) api.Step { return api.Step{Op: api.StepLoad, Frame: f} }

func undo(f int) api.Step { return api.Step{Op: api.StepUndo, Frame: f} }

func play(f int) api.Step { return api.Step{Op: api.StepPlay, Frame: f} }

func way(steps ...api.Step) []api.Step { return steps }

func cost(loads, undos, plays int) api.Cost {
	return api.Cost{Loads: loads, Undos: undos, Plays: plays}
}

// four are the kinds of all games here: 1 is Pos, 2 is Vel, 3 is Mark, 4 is Life.
func four() []api.Kind {
	return []api.Kind{{Name: "Pos", Fields: []string{"x", "y"}}, {Name: "Vel", Fields: []string{"x"}}, {Name: "Mark"}, {Name: "Life", Fields: []string{"n"}}}
}

// lively is a game of which no two frames are alike: all are hurt by chance, by inputs and by the frame's number, come, go and are cut off. It has two stages, of two systems each.
const lively = `
system Move reads Vel writes Pos { Pos.x = Pos.x + Vel.x + input(0, 0); Pos.y = Pos.y * 3 + rand(9) + tick; }
system Age writes Life { Life.n = Life.n - 1; if Life.n <= 0 { die; } if rand(4) == 0 { spawn Pos{x: me, y: tick}, Vel{x: rand(4) - 1}, Life{n: 2 + rand(6)}; } }
system Ring without Mark reads Pos { if Pos.x > 8 { emit Pos.x, me; add Mark{}; } }
system Spin with Mark reads Pos { emit tick, rand(10); if rand(6) == 0 { remove Mark; } if Pos.y % 5 == 3 { while 1 == 1 { } } }
`

func game(t testing.TB, source string) *frame.Game {
	t.Helper()
	tree, err := syntax.Parse(source)
	if err != nil {
		t.Fatalf("the test's own source: %v", err)
	}
	c, err := check.Check(tree, four())
	if err != nil {
		t.Fatalf("the test's own source: %v", err)
	}
	program, bad := compile.Compile(c)
	if bad != api.OK {
		t.Fatalf("the test's own source: %v", bad)
	}
	g, bad := frame.New(four(), program)
	if bad != api.OK {
		t.Fatalf("the test's own game: %v", bad)
	}
	return g
}

// tickOf is a tick that stands for a number: no two of them are alike.
func tickOf(n int) api.Tick {
	x := int64(n)
	return api.Tick{
		Seed:   x * 7,
		Inputs: []api.Input{{Player: 0, Key: 0, Value: x % 5}, {Player: 1, Key: n, Value: -x}},
		Asks: []api.Command{
			spawn(p(1, x, -x), p(2, x%3), p(4, 3+x%4)),
			{Op: api.OpAdd, E: e(n%3, 1), Kind: 3},
			{Op: api.OpDespawn, E: e(n%7, 1+n%2)},
			{Op: api.OpAdd, E: e(0, 1), Kind: 1, Values: []int64{x, x, x}},
		},
	}
}

// picksOf are picks that go in the lively game, or none.
func picksOf(n int) []int {
	if n%3 == 0 {
		return nil
	}
	return []int{n % 2, 0, n / 2 % 2, 0}
}

func newHistory(t testing.TB, g *frame.Game, every, back int) *history.History {
	t.Helper()
	h, bad := history.New(g, every, back)
	if bad != api.OK || h == nil {
		t.Fatalf("H1: New(%d, %d): %v", every, back, bad)
	}
	return h
}

// record records frames with the ticks and picks of their numbers.
func record(t testing.TB, h *history.History, frames int) {
	t.Helper()
	for range frames {
		n := h.Len() + 1
		if _, bad := h.Record(tickOf(n), picksOf(n)); bad != api.OK {
			t.Fatalf("H2: Record of frame %d: %v", n, bad)
		}
	}
}

// recorded is a history of so many frames.
func recorded(t testing.TB, every, back, frames int) *history.History {
	t.Helper()
	h := newHistory(t, game(t, lively), every, back)
	record(t, h, frames)
	return h
}

// worlds are the snapshots of the frames up to one, made without a history.
func worlds(t testing.TB, frames int) []string {
	t.Helper()
	g := game(t, lively)
	w := g.Start()
	all := []string{string(w.Snapshot())}
	for f := 1; f <= frames; f++ {
		next, _, bad := g.Step(w, f, tickOf(f), picksOf(f))
		if bad != api.OK {
			t.Fatalf("the test's own tick %d: %v", f, bad)
		}
		w = next
		all = append(all, string(w.Snapshot()))
	}
	return all
}

// wantNow holds where one is against a frame and its world.
func wantNow(t testing.TB, what string, h *history.History, f int, snapshot string) {
	t.Helper()
	w, at := h.Now()
	if at != f || w == nil || string(w.Snapshot()) != snapshot {
		t.Fatalf("H6: %s: one is at %d, want %d; its world is right: %v", what, at, f, w != nil && string(w.Snapshot()) == snapshot)
	}
}

func wantSeek(t testing.TB, h *history.History, f int, want api.Cost, snapshot string) {
	t.Helper()
	_, from := h.Now()
	w, got, bad := h.Seek(f)
	if bad != api.OK || got != want || w == nil || string(w.Snapshot()) != snapshot {
		t.Fatalf("H4: Seek(%d) from %d costs %v, %v, want %v; its world is right: %v", f, from, got, bad, want, w != nil && string(w.Snapshot()) == snapshot)
	}
	wantNow(t, "behind a Seek", h, f, snapshot)
}

func wantNoSeek(t testing.TB, h *history.History, f int) {
	t.Helper()
	was := told(h)
	if w, c, bad := h.Seek(f); w != nil || c != (api.Cost{}) || bad != api.ErrFrame {
		t.Errorf("H4: Seek(%d) of %d frames: %v, %v, %v, want ErrFrame", f, h.Len(), w, c, bad)
	}
	if told(h) != was {
		t.Errorf("P2: a Seek that does not go changes something")
	}
}

func wantGo(t testing.TB, h *history.History, steps []api.Step, f int, snapshot string) {
	t.Helper()
	_, from := h.Now()
	w, at, bad := h.Go(steps)
	if bad != api.OK || at != f || w == nil || string(w.Snapshot()) != snapshot {
		t.Fatalf("H5: Go(%v) from %d: %d, %v, want %d; its world is right: %v", steps, from, at, bad, f, w != nil && string(w.Snapshot()) == snapshot)
	}
	wantNow(t, "behind a Go", h, f, snapshot)
}

func wantNoGo(t testing.TB, h *history.History, steps []api.Step) {
	t.Helper()
	_, from := h.Now()
	was := told(h)
	if w, at, bad := h.Go(steps); w != nil || at != 0 || bad != api.ErrPath {
		t.Errorf("H5: Go(%v) from %d: %d, %v, want ErrPath", steps, from, at, bad)
	}
	if told(h) != was {
		t.Errorf("H5: Go(%v) from %d does not go, and changes something", steps, from)
	}
}

// told writes all that a history tells without going anywhere.
func told(h *history.History) string {
	w, at := h.Now()
	var text strings.Builder
	fmt.Fprintf(&text, "%d frames, keys %v, at %d, world %x, kinds %v", h.Len(), h.Keys(), at, w.Snapshot(), w.Kinds())
	for f := range h.Len() + 2 {
		tick, picks, bad := h.Tick(f)
		fmt.Fprintf(&text, "\n%d: %v %v %v", f, tick, picks, bad)
	}
	return text.String()
}

// TestNew: H1, which numbers are taken, and what a history is at first.
func TestNew(t *testing.T) {
	g := game(t, lively)
	for _, row := range []struct {
		g           *frame.Game
		every, back int
		want        api.Errno
	}{
		{g, 1, 0, api.OK}, {g, 1, 1, api.OK}, {g, 3, 2, api.OK}, {g, 5000, 5000, api.OK}, {g, 5000, 0, api.OK}, {g, 1, 5000, api.OK},
		{nil, 3, 2, api.ErrArg}, {nil, 0, -1, api.ErrArg},
		{g, 0, 2, api.ErrArg}, {g, -1, 2, api.ErrArg}, {g, 5001, 2, api.ErrArg}, {g, math.MinInt, 2, api.ErrArg}, {g, math.MaxInt, 2, api.ErrArg},
		{g, 3, -1, api.ErrArg}, {g, 3, 5001, api.ErrArg}, {g, 3, math.MinInt, api.ErrArg}, {g, 3, math.MaxInt, api.ErrArg},
	} {
		h, bad := history.New(row.g, row.every, row.back)
		if bad != row.want || (h == nil) != (bad != api.OK) {
			t.Errorf("H1: New(%v, %d, %d): %v, want %v", row.g != nil, row.every, row.back, bad, row.want)
		}
		if h == nil {
			continue
		}
		start := string(g.Start().Snapshot())
		if h.Len() != 0 || fmt.Sprint(h.Keys()) != "[0]" {
			t.Errorf("H1: a new history has %d frames, and the keys %v", h.Len(), h.Keys())
		}
		wantNow(t, "in a new history", h, 0, start)
		wantSeek(t, h, 0, api.Cost{}, start)
		wantGo(t, h, way(load(0), load(0)), 0, start)
		for _, f := range []int{-1, 1} {
			wantNoSeek(t, h, f)
		}
		for _, steps := range [][]api.Step{way(undo(-1)), way(undo(0)), way(play(1)), way(load(1)), way(load(row.every))} {
			wantNoGo(t, h, steps)
		}
	}
}

// TestRecord: H2, what Record answers is what Step does of the last world; one is at the new frame.
func TestRecord(t *testing.T) {
	g := game(t, lively)
	h := newHistory(t, g, 3, 2)
	w := g.Start()
	seen := api.Report{}
	for f := 1; f <= 20; f++ {
		next, want, _ := g.Step(w, f, tickOf(f), picksOf(f))
		got, bad := h.Record(tickOf(f), picksOf(f))
		if bad != api.OK || fmt.Sprint(got) != fmt.Sprint(want) {
			t.Fatalf("H2: Record of frame %d: %v, %v, want %v", f, got, bad, want)
		}
		if h.Len() != f {
			t.Fatalf("H3: Len is %d behind frame %d", h.Len(), f)
		}
		wantNow(t, "behind a Record", h, f, string(next.Snapshot()))
		w = next
		seen = api.Report{Events: append(seen.Events, got.Events...), Failed: append(seen.Failed, got.Failed...), Spawned: append(seen.Spawned, got.Spawned...), Refused: seen.Refused + got.Refused}
	}
	if len(seen.Events) == 0 || len(seen.Failed) == 0 || len(seen.Spawned) < 30 || seen.Refused == 0 {
		t.Errorf("the test's own game does too little: %v", seen)
	}
}

// TestRecordFromElsewhere: H2, the next frame is made of the last one, wherever one is.
func TestRecordFromElsewhere(t *testing.T) {
	const frames = 14
	all := worlds(t, frames)
	for _, back := range []int{0, 1, 3, 20} {
		h := recorded(t, 4, back, 1)
		for f := 2; f <= frames; f++ {
			h.Seek(f * 5 % f)
			record(t, h, 1)
			wantNow(t, "behind a Record from elsewhere", h, f, all[f])
		}
		for f := frames; f >= 0; f-- {
			if w, _, _ := h.Seek(f); string(w.Snapshot()) != all[f] {
				t.Errorf("H2: frames that were recorded from elsewhere: frame %d is another one", f)
			}
		}
	}
}

// TestRecordRefuses: H2, the errors of Step; nothing is changed then, and one stays where one is.
func TestRecordRefuses(t *testing.T) {
	h := recorded(t, 3, 2, 7)
	for _, row := range []struct {
		what  string
		tick  api.Tick
		picks []int
		want  api.Errno
	}{
		{"too many inputs", api.Tick{Inputs: make([]api.Input, api.MaxInputs+1)}, nil, api.ErrArg},
		{"too many asks", api.Tick{Asks: make([]api.Command, api.MaxAsks+1)}, nil, api.ErrArg},
		{"too many picks", tickOf(8), make([]int, api.MaxSystems+1), api.ErrArg},
		{"too many asks, and picks that do not go", api.Tick{Asks: make([]api.Command, api.MaxAsks+1)}, []int{9}, api.ErrArg},
		{"too few picks", tickOf(8), []int{0, 0, 0}, api.ErrPick},
		{"too many picks for the systems", tickOf(8), make([]int, 5), api.ErrPick},
		{"a pick of none", tickOf(8), []int{2, 0, 0, 0}, api.ErrPick},
		{"a pick below 0", tickOf(8), []int{0, -1, 0, 0}, api.ErrPick},
	} {
		for _, f := range []int{7, 4, 0} {
			h.Seek(f)
			was := told(h)
			got, bad := h.Record(row.tick, row.picks)
			if bad != row.want || fmt.Sprint(got) != fmt.Sprint(api.Report{}) {
				t.Errorf("H2: %s: %v, %v, want %v", row.what, got, bad, row.want)
			}
			if told(h) != was {
				t.Errorf("P2: %s changes something", row.what)
			}
		}
	}
	for _, tick := range []api.Tick{{}, {Inputs: make([]api.Input, api.MaxInputs)}, {Asks: make([]api.Command, api.MaxAsks)}} {
		if _, bad := h.Record(tick, []int{0, 0, 0, 0}); bad != api.OK {
			t.Errorf("H2: a tick that may be: %v", bad)
		}
	}
}

// TestExample: H4, H5 and H7, the chapter's examples.
func TestExample(t *testing.T) {
	h, all := recorded(t, 3, 2, 7), worlds(t, 7)
	if fmt.Sprint(h.Keys()) != "[0 3 6]" {
		t.Errorf("H6: the keys are %v", h.Keys())
	}
	wantNow(t, "seven frames on", h, 7, all[7])
	for _, row := range []struct {
		f    int
		want api.Cost
	}{{5, cost(1, 1, 0)}, {7, cost(1, 0, 1)}, {2, cost(1, 0, 2)}, {3, cost(1, 0, 0)}, {6, cost(1, 0, 0)}} {
		wantSeek(t, h, row.f, row.want, all[row.f])
	}
	h = recorded(t, 3, 2, 7)
	wantGo(t, h, way(undo(6), undo(5)), 5, all[5])
	wantNoGo(t, h, way(undo(4)))
	wantGo(t, h, way(play(6), load(3)), 3, all[3])
	wantNoGo(t, h, way(play(5)))
	wantGo(t, h, nil, 3, all[3])
	wantGo(t, h, way(), 3, all[3])

	c := cut(t, h, 4)
	if fmt.Sprint(c.Keys()) != "[0 3]" {
		t.Errorf("H7: the keys are %v", c.Keys())
	}
	wantNow(t, "in what was cut off", c, 4, all[4])
	wantGo(t, c, way(undo(3), undo(2)), 2, all[2])
	wantNoGo(t, c, way(undo(1)))
}

// TestSeek: H4, the fewest plays and undos; of several ways with as few the first; and the edges of what can be undone.
func TestSeek(t *testing.T) {
	all := worlds(t, 12)
	for _, row := range []struct {
		what              string
		every, back, last int
		from, to          int
		want              api.Cost
	}{
		{"nothing to do", 3, 2, 7, 5, 5, cost(0, 0, 0)},
		{"nothing to do, at a key", 3, 2, 7, 6, 6, cost(0, 0, 0)},
		{"plays", 10, 0, 9, 4, 7, cost(0, 0, 3)},
		{"plays up to the last frame", 10, 0, 9, 8, 9, cost(0, 0, 1)},
		{"undos", 10, 9, 9, 9, 6, cost(0, 3, 0)},
		{"undos down to 0: a load is less", 10, 9, 9, 1, 0, cost(1, 0, 0)},
		{"as many plays by a load: no load", 4, 0, 8, 4, 5, cost(0, 0, 1)},
		{"as many plays as undos from a key above: no load", 4, 8, 8, 2, 3, cost(0, 0, 1)},
		{"as many undos as plays from a key: no load", 4, 8, 8, 6, 5, cost(0, 1, 0)},
		{"as many undos as from a key, where one is: no load", 4, 8, 8, 8, 7, cost(0, 1, 0)},
		{"as many plays as undos, each by a load: plays", 4, 8, 8, 0, 6, cost(1, 0, 2)},
		{"fewer undos from a key than plays from one", 4, 8, 8, 0, 7, cost(1, 1, 0)},
		{"fewer undos from a key than from where one is", 4, 8, 10, 10, 7, cost(1, 1, 0)},
		{"fewer plays from a key than from where one is", 4, 0, 10, 1, 6, cost(1, 0, 2)},
		{"fewer plays from a key than undos from where one is", 4, 10, 11, 11, 9, cost(1, 0, 1)},
		{"one play from where one is, but none from a key", 3, 2, 7, 2, 3, cost(1, 0, 0)},
		{"one undo from where one is, but none from a key", 3, 9, 7, 4, 3, cost(1, 0, 0)},
		{"no key above", 4, 11, 11, 0, 11, cost(1, 0, 3)},
		{"a key above that is the last frame", 4, 1, 8, 0, 7, cost(1, 1, 0)},
		{"a key above that is one behind the last frame", 4, 7, 7, 0, 7, cost(1, 0, 3)},
		{"the last frame that can be undone", 12, 3, 10, 10, 7, cost(0, 3, 0)},
		{"a frame that can't be undone any more", 12, 3, 10, 10, 6, cost(1, 0, 6)},
		{"a frame that can't, from one that can", 12, 3, 10, 8, 6, cost(1, 0, 6)},
		{"from a frame that can't be undone", 12, 3, 10, 7, 6, cost(1, 0, 6)},
		{"the last frame that can be undone, from a key above", 5, 3, 11, 0, 8, cost(1, 2, 0)},
		{"a frame that can't be undone, from a key above", 5, 2, 11, 0, 8, cost(1, 0, 3)},
		{"a key above can be undone itself, but not the frame behind", 6, 2, 12, 0, 11, cost(1, 1, 0)},
		{"a key above, too far behind the last ones", 5, 3, 12, 0, 8, cost(1, 0, 3)},
		{"nothing can be undone", 6, 0, 12, 12, 11, cost(1, 0, 5)},
		{"each frame is a key", 1, 0, 9, 2, 7, cost(1, 0, 0)},
		{"each frame is a key, the next one", 1, 9, 9, 2, 3, cost(1, 0, 0)},
		{"each frame is a key, the one ahead", 1, 9, 9, 2, 1, cost(1, 0, 0)},
		{"the frame 0, from the last one", 3, 2, 7, 7, 0, cost(1, 0, 0)},
		{"back as many as there are frames", 12, 9, 9, 9, 2, cost(1, 0, 2)},
		{"more back than there are frames", 12, 5000, 9, 5, 3, cost(0, 2, 0)},
		{"more every than there are frames", 5000, 5000, 9, 9, 5, cost(0, 4, 0)},
	} {
		h := recorded(t, row.every, row.back, row.last)
		if w, _, bad := h.Seek(row.from); bad != api.OK || string(w.Snapshot()) != all[row.from] {
			t.Fatalf("H4: Seek(%d): %v", row.from, bad)
		}
		w, got, bad := h.Seek(row.to)
		if bad != api.OK || got != row.want || string(w.Snapshot()) != all[row.to] {
			t.Errorf("H4: %s: every %d, back %d, %d frames, from %d to %d: %v, %v, want %v", row.what, row.every, row.back, row.last, row.from, row.to, got, bad, row.want)
		}
		wantNow(t, row.what, h, row.to, all[row.to])
	}
}

// TestSeekRefuses: H4, frames that are not there.
func TestSeekRefuses(t *testing.T) {
	h := recorded(t, 3, 2, 7)
	for _, at := range []int{7, 4} {
		h.Seek(at)
		for _, f := range []int{-1, 8, 9, -3, 5000, 5001, math.MinInt, math.MaxInt} {
			wantNoSeek(t, h, f)
		}
	}
}

// TestGo: H5, ways that go, step by step and all at once.
func TestGo(t *testing.T) {
	all := worlds(t, 9)
	for _, steps := range [][]api.Step{
		way(load(0)), way(load(4)), way(load(8)), way(load(8), load(8)), way(load(8), load(0), load(4)),
		way(undo(8)), way(undo(8), undo(7), undo(6)), way(undo(8), play(9)), way(undo(8), play(9), undo(8), undo(7), play(8), undo(7)),
		way(load(8), undo(7)), way(load(8), play(9)), way(load(0), play(1), play(2), play(3), play(4), play(5)),
		way(load(8), undo(7), undo(6), load(4), play(5), play(6), play(7), undo(6)),
	} {
		at := steps[len(steps)-1].Frame
		wantGo(t, recorded(t, 4, 3, 9), steps, at, all[at])
		h := recorded(t, 4, 3, 9)
		for _, step := range steps {
			wantGo(t, h, way(step), step.Frame, all[step.Frame])
		}
		wantGo(t, h, nil, at, all[at])
	}
}

// TestGoRefuses: H5, each step that does not go, is none, or has another Frame, first, in the midst of others, and last; one stays where one was.
func TestGoRefuses(t *testing.T) {
	for _, row := range []struct {
		at  int // where one is ahead of the step
		bad []api.Step
	}{
		{0, way(undo(-1), undo(0), undo(1), play(0), play(2), play(-1), load(1), load(2), load(3), load(5), load(12), load(-4), load(-1), load(math.MinInt), load(math.MaxInt))},
		{4, way(undo(3), undo(4), undo(5), play(4), play(3), play(6), play(math.MinInt), undo(math.MaxInt), load(10), load(9))},
		{6, way(undo(5), undo(6), undo(7), play(6), play(5), play(8), load(6), load(7))},
		{7, way(undo(5), undo(7), undo(8), play(6), play(7), play(9))},
		{8, way(undo(8), undo(6), undo(9), play(8), play(7), play(10))},
		{9, way(undo(9), undo(7), undo(10), play(9), play(10), play(8), load(10), load(12))},
	} {
		for _, op := range []int{0, -1, 4, 5, 257, math.MinInt, math.MaxInt} {
			for _, f := range []int{row.at - 1, row.at, row.at + 1, 0, 4, 8} {
				row.bad = append(row.bad, api.Step{Op: op, Frame: f})
			}
		}
		// every 4, back 3: the frames 7, 8, 9 can be undone
		h := recorded(t, 4, 3, 9)
		ahead := map[int][]api.Step{0: way(load(0)), 4: way(load(4)), 6: way(load(8), undo(7), undo(6)), 7: way(load(8), undo(7)), 8: way(load(8)), 9: way(load(8), play(9))}[row.at]
		for _, from := range []int{row.at, 2} {
			h.Seek(from)
			for _, bad := range row.bad {
				wantNoGo(t, h, append(ahead[:len(ahead):len(ahead)], bad))
				wantNoGo(t, h, append(ahead[:len(ahead):len(ahead)], bad, load(4)))
				wantNoGo(t, h, append(ahead[:len(ahead):len(ahead)], bad, bad, load(0)))
				if from == row.at {
					wantNoGo(t, h, way(bad))
					wantNoGo(t, h, way(bad, load(8)))
				}
			}
		}
	}
}

// TestUndone: H5, which frames can be undone, as frames come.
func TestUndone(t *testing.T) {
	const frames = 12
	all := worlds(t, frames)
	for _, every := range []int{1, 4, 50} {
		for _, back := range []int{0, 1, 2, 5, 11, 12, 13, 5000} {
			h := newHistory(t, game(t, lively), every, back)
			for last := range frames + 1 {
				if last > 0 {
					record(t, h, 1)
				}
				for f := last; f > 0; f-- {
					wantGo(t, h, way(load(0)), 0, all[0])
					for k := 1; k <= f; k++ {
						wantGo(t, h, way(play(k)), k, all[k])
					}
					if f > last-back {
						wantGo(t, h, way(undo(f-1)), f-1, all[f-1])
					} else {
						wantNoGo(t, h, way(undo(f-1)))
					}
				}
				h.Seek(0)
				wantNoGo(t, h, way(undo(-1)))
			}
		}
	}
}

// TestKeys: H6, the keys as frames come, and that just they can be loaded (H5).
func TestKeys(t *testing.T) {
	const frames = 9
	all := worlds(t, frames)
	for every := 1; every <= frames+2; every++ {
		h := newHistory(t, game(t, lively), every, 2)
		want := []int{0}
		for f := range frames + 1 {
			if f > 0 {
				record(t, h, 1)
			}
			if f > 0 && f == want[len(want)-1]+every {
				want = append(want, f)
			}
			if fmt.Sprint(h.Keys()) != fmt.Sprint(want) {
				t.Errorf("H6: every %d, %d frames: the keys are %v, want %v", every, f, h.Keys(), want)
			}
		}
		next := 0
		for f := range frames + 3 {
			if next < len(want) && want[next] == f {
				wantGo(t, h, way(load(f)), f, all[f])
				next++
			} else {
				wantNoGo(t, h, way(load(f)))
			}
		}
	}
}

// TestTick: H6, ticks and picks as they were handed in, and frames that have none.
func TestTick(t *testing.T) {
	h := recorded(t, 3, 2, 7)
	for f := 1; f <= 7; f++ {
		tick, picks, bad := h.Tick(f)
		if bad != api.OK || fmt.Sprint(tick) != fmt.Sprint(tickOf(f)) || fmt.Sprint(picks) != fmt.Sprint(picksOf(f)) {
			t.Errorf("H6: Tick(%d): %v, %v, %v, want %v, %v", f, tick, picks, bad, tickOf(f), picksOf(f))
		}
	}
	for _, f := range []int{0, -1, 8, 5001, math.MinInt, math.MaxInt} {
		if tick, picks, bad := h.Tick(f); bad != api.ErrFrame || picks != nil || fmt.Sprintf("%#v", tick) != fmt.Sprintf("%#v", api.Tick{}) {
			t.Errorf("H6: Tick(%d): %v, %v, %v, want ErrFrame", f, tick, picks, bad)
		}
	}
	strange := api.Tick{
		Seed:   math.MinInt64,
		Inputs: []api.Input{{Player: math.MinInt, Key: math.MaxInt, Value: math.MinInt64}, {}},
		Asks: []api.Command{
			{Op: -9, E: e(-1, math.MaxInt), Kind: 77, Values: make([]int64, 1000), Parts: []api.Part{p(-3, 1, 2, 3), {}, p(1)}},
			{}, spawn(), spawn(p(1), p(1)), {Op: api.OpDespawn, E: e(0, 1), Kind: 5, Values: []int64{1}, Parts: []api.Part{p(9, 9)}},
		},
	}
	if _, bad := h.Record(strange, []int{}); bad != api.OK {
		t.Fatalf("H2: a tick that asks for what can't be: %v", bad)
	}
	if tick, picks, bad := h.Tick(8); bad != api.OK || fmt.Sprint(tick) != fmt.Sprint(strange) || len(picks) != 0 {
		t.Errorf("H6: what was asked for in vain: %v, %v, %v, want %v", tick, picks, bad, strange)
	}
}

func cut(t testing.TB, h *history.History, f int) *history.History {
	t.Helper()
	was := told(h)
	c, bad := h.Cut(f)
	if bad != api.OK || c == nil {
		t.Fatalf("H7: Cut(%d) of %d frames: %v", f, h.Len(), bad)
	}
	if told(h) != was {
		t.Fatalf("H7: Cut(%d) changes the history of which it cuts", f)
	}
	return c
}

// TestCut: H7, each frame, from each frame: what is cut off is as if no more frames had been recorded.
func TestCut(t *testing.T) {
	const frames = 9
	all := worlds(t, frames)
	for _, every := range []int{1, 3, 50} {
		for _, back := range []int{0, 1, 4, 8, 9, 5000} {
			h := recorded(t, every, back, frames)
			for f := range frames + 1 {
				want := told(recorded(t, every, back, f))
				for at := range frames + 1 {
					h.Seek(at)
					c := cut(t, h, f)
					wantNow(t, "where one was ahead of a Cut", h, at, all[at])
					if got := told(c); got != want {
						t.Fatalf("H7: every %d, back %d: Cut(%d) at %d is %s, want %s", every, back, f, at, got, want)
					}
					for k := f - 1; k >= max(f-back, 0); k-- {
						wantGo(t, c, way(undo(k)), k, all[k])
					}
					_, k := c.Now()
					wantNoGo(t, c, way(undo(k-1)))
					for ; k < f; k++ {
						wantGo(t, c, way(play(k+1)), k+1, all[k+1])
					}
					wantNoGo(t, c, way(play(f+1)))
				}
			}
		}
	}
}

// TestCutRefuses: H7, frames that are not there.
func TestCutRefuses(t *testing.T) {
	h := recorded(t, 3, 2, 7)
	h.Seek(5)
	was := told(h)
	for _, f := range []int{-1, 8, 9, 5000, math.MinInt, math.MaxInt} {
		if c, bad := h.Cut(f); c != nil || bad != api.ErrFrame {
			t.Errorf("H7: Cut(%d): %v, want ErrFrame", f, bad)
		}
	}
	if told(h) != was {
		t.Errorf("P2: a Cut that does not go changes something")
	}
}

// TestCutIsApart: H7, what is done with one of two histories changes nothing in the other one, also what is recorded in both by turns.
func TestCutIsApart(t *testing.T) {
	const frames = 12
	all := worlds(t, frames+5)
	for f := range frames + 1 {
		for _, first := range []bool{false, true} {
			h := recorded(t, 3, 4, frames)
			h.Seek(7)
			c := cut(t, h, f)
			was, wasCut := told(h), told(c)
			other := func(n int) api.Tick { return tickOf(1000 + n) }
			if first {
				c.Record(other(1), nil)
				c.Seek(f / 2)
				c.Cut(f)
				if told(h) != was {
					t.Fatalf("H7: what is done with what was cut off at %d changes the other one", f)
				}
			}
			wasCut = told(c)
			record(t, h, 5)
			h.Seek(1)
			h.Seek(frames + 4)
			if told(c) != wasCut {
				t.Fatalf("H7: what is done with a history changes what was cut off at %d", f)
			}
			for n := range 5 {
				c.Record(other(n), nil)
			}
			for k := frames + 5; k >= 0; k-- {
				if w, _, bad := h.Seek(k); bad != api.OK || string(w.Snapshot()) != all[k] {
					t.Fatalf("H7: the frame %d is another one behind what was done with what was cut off at %d", k, f)
				}
				if tick, _, _ := h.Tick(k); k > 0 && fmt.Sprint(tick) != fmt.Sprint(tickOf(k)) {
					t.Fatalf("H7: the tick %d is another one behind what was done with what was cut off at %d", k, f)
				}
			}
			for k := f; k >= 0; k-- {
				if w, _, bad := c.Seek(k); bad != api.OK || string(w.Snapshot()) != all[k] {
					t.Fatalf("H7: the frame %d of what was cut off at %d is another one", k, f)
				}
			}
		}
	}
}

// TestCutOfCut: H7, cuts of cuts, back and on.
func TestCutOfCut(t *testing.T) {
	all := worlds(t, 20)
	h := recorded(t, 4, 3, 20)
	for f := 19; f >= 0; f-- {
		h = cut(t, h, f)
		if got, want := told(h), told(recorded(t, 4, 3, f)); got != want {
			t.Fatalf("H7: cut after cut down to %d: %s, want %s", f, got, want)
		}
		for k := f - 1; k >= max(f-3, 0); k-- {
			wantGo(t, h, way(undo(k)), k, all[k])
		}
		_, k := h.Now()
		wantNoGo(t, h, way(undo(k-1)))
	}
}

// TestOtherGames: P4 of DOC.md, histories of other games, everys and backs have nothing to do with one another.
func TestOtherGames(t *testing.T) {
	all := worlds(t, 6)
	still := game(t, "")
	one, other := newHistory(t, game(t, lively), 2, 2), newHistory(t, still, 3, 1)
	var w *world.World = still.Start()
	for f := 1; f <= 6; f++ {
		record(t, one, 1)
		if _, bad := other.Record(tickOf(2*f), nil); bad != api.OK {
			t.Fatalf("H2: %v", bad)
		}
		w, _, _ = still.Step(w, f, tickOf(2*f), nil)
		wantNow(t, "beside another one", one, f, all[f])
		wantNow(t, "beside another one", other, f, string(w.Snapshot()))
	}
	if _, bad := other.Record(tickOf(7), []int{0, 0, 0, 0}); bad != api.ErrPick {
		t.Errorf("H2: picks for a game without systems: %v", bad)
	}
}
