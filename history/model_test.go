package history_test

import (
	"fmt"
	"math/rand"
	"slices"
	"testing"

	"hindcast/api"
	"hindcast/frame"
	"hindcast/history"
	"hindcast/world"
)

// model is a history as the chapter's words say it: it has all worlds, and looks at each frame.
type model struct {
	game        *frame.Game
	every, back int
	ticks       []api.Tick
	picks       [][]int
	worlds      []*world.World
	at          int
}

func newModel(g *frame.Game, every, back int) *model {
	return &model{game: g, every: every, back: back, worlds: []*world.World{g.Start()}}
}

func (m *model) last() int { return len(m.worlds) - 1 }

func (m *model) snapshot(f int) string { return string(m.worlds[f].Snapshot()) }

func (m *model) record(tick api.Tick, picks []int) (api.Report, api.Errno) {
	if m.last() == 5000 {
		return api.Report{}, api.ErrFull
	}
	next, report, bad := m.game.Step(m.worlds[m.last()], m.last()+1, tick, picks)
	if bad == api.OK {
		m.ticks, m.picks, m.worlds = append(m.ticks, tick), append(m.picks, picks), append(m.worlds, next)
		m.at = m.last()
	}
	return report, bad
}

func (m *model) keys() []int {
	var keys []int
	for f := 0; f <= m.last(); f += m.every {
		keys = append(keys, f)
	}
	return keys
}

// undoable are the last frames, as many as back says, as far as there are so many, and without 0.
func (m *model) undoable() []int {
	var frames []int
	for f := m.last(); f > 0 && len(frames) < m.back; f-- {
		frames = append(frames, f)
	}
	return frames
}

// steps are those that go from a frame.
func (m *model) steps(at int) []api.Step {
	var steps []api.Step
	for _, key := range m.keys() {
		steps = append(steps, load(key))
	}
	if slices.Contains(m.undoable(), at) {
		steps = append(steps, undo(at-1))
	}
	if at < m.last() {
		steps = append(steps, play(at+1))
	}
	return steps
}

// end tells to which frame a way leads; -1, if it does not go.
func (m *model) end(from int, steps []api.Step) int {
	for _, step := range steps {
		if !slices.Contains(m.steps(from), step) {
			return -1
		}
		from = step.Frame
	}
	return from
}

// defaults are the four ways, those that there can't be left empty.
func (m *model) defaults(f int) [4][]api.Step {
	var ways [4][]api.Step
	for k := m.at + 1; k <= f; k++ {
		ways[0] = append(ways[0], play(k))
	}
	for k := m.at - 1; k >= f; k-- {
		ways[1] = append(ways[1], undo(k))
	}
	for _, key := range m.keys() {
		if key <= f {
			ways[2] = way(load(key))
			for k := key + 1; k <= f; k++ {
				ways[2] = append(ways[2], play(k))
			}
		} else if ways[3] == nil {
			ways[3] = way(load(key))
			for k := key - 1; k >= f; k-- {
				ways[3] = append(ways[3], undo(k))
			}
		}
	}
	return ways
}

// seek tells the cost of the default way, and which of the four it is.
func (m *model) seek(f int) (api.Cost, int) {
	best, which, fewest := api.Cost{}, -1, 0
	for i, steps := range m.defaults(f) {
		if m.end(m.at, steps) != f {
			continue
		}
		count := [4]int{}
		for _, step := range steps {
			count[step.Op]++
		}
		if together := count[api.StepUndo] + count[api.StepPlay]; which < 0 || together < fewest {
			best, which, fewest = cost(count[api.StepLoad], count[api.StepUndo], count[api.StepPlay]), i, together
		}
	}
	return best, which
}

func (m *model) cut(f int) *model {
	c := newModel(m.game, m.every, m.back)
	for k := range f {
		c.record(m.ticks[k], m.picks[k])
	}
	return c
}

// pair is a history beside the model of it.
type pair struct {
	h *history.History
	m *model
}

// caller makes calls that are left to chance, or to bytes, of several histories that were cut off of one another.
type caller struct {
	testing.TB
	below func(n int) int // 0 up to n, without n
	pairs []pair
	seen  map[string]int
}

func (c *caller) chance(of int) bool { return c.below(of) == 0 }

// call makes one.
func (c *caller) call() {
	x := c.pairs[c.below(len(c.pairs))]
	switch c.below(12) {
	case 0, 1, 2:
		c.record(x)
	case 3, 4, 5:
		c.seek(x)
	case 6, 7, 8:
		c.goes(x)
	case 9:
		c.tick(x)
	case 10:
		c.cut(x)
	default:
		if got, want := fmt.Sprint(x.h.Keys()), fmt.Sprint(x.m.keys()); got != want {
			c.Fatalf("H6: the keys are %s, want %s", got, want)
		}
	}
	for _, x := range c.pairs {
		w, at := x.h.Now()
		if x.h.Len() != x.m.last() || at != x.m.at || string(w.Snapshot()) != x.m.snapshot(at) || fmt.Sprint(w.Kinds()) != fmt.Sprint(four()) {
			c.Fatalf("H6: %d frames, at %d, want %d, at %d; the world is right: %v", x.h.Len(), at, x.m.last(), x.m.at, string(w.Snapshot()) == x.m.snapshot(at))
		}
	}
}

func (c *caller) someTick() api.Tick {
	tick := tickOf(c.below(200))
	switch c.below(10) {
	case 0:
		tick = api.Tick{}
	case 1:
		tick.Inputs = make([]api.Input, 32+c.below(2))
	case 2:
		tick.Asks = append(make([]api.Command, 196+c.below(2)), tick.Asks...)
	}
	return tick
}

func (c *caller) somePicks() []int {
	switch c.below(10) {
	case 0:
		return make([]int, c.below(19))
	case 1:
		return []int{c.below(4) - 1, 0, c.below(3), 0}
	}
	return picksOf(c.below(6))
}

func (c *caller) record(x pair) {
	tick, picks := c.someTick(), c.somePicks()
	want, wantBad := x.m.record(tick, picks)
	got, bad := x.h.Record(tick, picks)
	if bad != wantBad || fmt.Sprint(got) != fmt.Sprint(want) {
		c.Fatalf("H2: Record of frame %d: %v, %v, want %v, %v", x.m.last(), got, bad, want, wantBad)
	}
	c.seen[fmt.Sprint("record ", int(bad))]++
}

func (c *caller) seek(x pair) {
	f := c.below(x.m.last()+3) - 1
	w, got, bad := x.h.Seek(f)
	if f < 0 || f > x.m.last() {
		if w != nil || got != (api.Cost{}) || bad != api.ErrFrame {
			c.Fatalf("H4: Seek(%d) of %d frames: %v, %v", f, x.m.last(), got, bad)
		}
		c.seen["seek nothing"]++
		return
	}
	want, which := x.m.seek(f)
	if bad != api.OK || got != want || string(w.Snapshot()) != x.m.snapshot(f) {
		c.Fatalf("H4: every %d, back %d, %d frames: Seek(%d) from %d: %v, %v, want %v", x.m.every, x.m.back, x.m.last(), f, x.m.at, got, bad, want)
	}
	x.m.at = f
	c.seen[fmt.Sprint("seek ", which+1)]++
	spoilWorld(w)
}

// someWay mostly goes, step by step.
func (c *caller) someWay(x pair) []api.Step {
	var steps []api.Step
	at := x.m.at
	for range c.below(9) {
		good := x.m.steps(at)
		step := good[len(good)-1-c.below(min(3, len(good)))]
		if c.chance(4) {
			step = good[c.below(len(good))]
		}
		switch c.below(20) {
		case 0:
			step.Op = c.below(6) - 1
		case 1:
			step.Frame += c.below(5) - 2
		}
		steps = append(steps, step)
		at = step.Frame
	}
	return steps
}

func (c *caller) goes(x pair) {
	steps := c.someWay(x)
	want := x.m.end(x.m.at, steps)
	w, at, bad := x.h.Go(steps)
	if want < 0 {
		if w != nil || at != 0 || bad != api.ErrPath {
			c.Fatalf("H5: every %d, back %d, %d frames: Go(%v) from %d: %d, %v, want ErrPath", x.m.every, x.m.back, x.m.last(), steps, x.m.at, at, bad)
		}
		c.seen["go nowhere"]++
		return
	}
	if bad != api.OK || at != want || string(w.Snapshot()) != x.m.snapshot(want) {
		c.Fatalf("H5: every %d, back %d, %d frames: Go(%v) from %d: %d, %v, want %d", x.m.every, x.m.back, x.m.last(), steps, x.m.at, at, bad, want)
	}
	x.m.at = want
	for _, step := range steps {
		c.seen[fmt.Sprint("go by ", step.Op)]++
	}
	spoilWorld(w)
}

func (c *caller) tick(x pair) {
	f := c.below(x.m.last()+3) - 1
	tick, picks, bad := x.h.Tick(f)
	if f < 1 || f > x.m.last() {
		if picks != nil || tick.Seed != 0 || tick.Inputs != nil || tick.Asks != nil || bad != api.ErrFrame {
			c.Fatalf("H6: Tick(%d) of %d frames: %v, %v, %v", f, x.m.last(), tick, picks, bad)
		}
		c.seen["tick of nothing"]++
		return
	}
	if bad != api.OK || fmt.Sprint(tick) != fmt.Sprint(x.m.ticks[f-1]) || fmt.Sprint(picks) != fmt.Sprint(x.m.picks[f-1]) {
		c.Fatalf("H6: Tick(%d): %v, %v, %v, want %v, %v", f, tick, picks, bad, x.m.ticks[f-1], x.m.picks[f-1])
	}
	spoilTick(tick)
	fill(picks, junk)
	c.seen["tick"]++
}

func (c *caller) cut(x pair) {
	f := c.below(x.m.last()+3) - 1
	h, bad := x.h.Cut(f)
	if f < 0 || f > x.m.last() {
		if h != nil || bad != api.ErrFrame {
			c.Fatalf("H7: Cut(%d) of %d frames: %v", f, x.m.last(), bad)
		}
		c.seen["cut nothing"]++
		return
	}
	if h == nil || bad != api.OK {
		c.Fatalf("H7: Cut(%d) of %d frames: %v", f, x.m.last(), bad)
	}
	c.seen["cut"]++
	other := pair{h, x.m.cut(f)}
	if len(c.pairs) < 4 {
		c.pairs = append(c.pairs, other)
	} else {
		c.pairs[c.below(4)] = other
	}
}

// TestModel: H1 to H7, calls in all orders against what the chapter's words say.
func TestModel(t *testing.T) {
	seen := map[string]int{}
	g := game(t, lively)
	for seed := range 150 {
		r := rand.New(rand.NewSource(int64(seed)))
		every, back := 1+r.Intn(6), r.Intn(9)
		if seed%10 == 0 {
			every, back = 1+r.Intn(5000), r.Intn(5001)
		}
		c := &caller{TB: t, below: r.Intn, seen: seen, pairs: []pair{{newHistory(t, g, every, back), newModel(g, every, back)}}}
		for range 120 {
			c.call()
		}
	}
	for _, what := range []string{"record 0", "record 1", "record 180", "seek 1", "seek 2", "seek 3", "seek 4", "seek nothing", "go by 1", "go by 2", "go by 3", "go nowhere", "tick", "tick of nothing", "cut", "cut nothing"} {
		if seen[what] < 40 {
			t.Errorf("the test's own calls: %s was seen %d times", what, seen[what])
		}
	}
}

// FuzzCalls: P1 of DOC.md, and H1 to H7, any calls against the model.
func FuzzCalls(f *testing.F) {
	f.Add(3, 2, []byte{0, 1, 0, 2, 0, 3, 0, 4, 0, 5, 0, 6, 3, 2, 3, 9, 6, 4, 1, 1, 1, 10, 3})
	f.Add(0, -1, []byte{})
	f.Add(5000, 5000, []byte{1, 7, 1, 0, 1, 1, 1, 4, 10, 2, 3, 1})
	f.Add(1, 0, []byte{2, 3, 2, 3, 2, 3, 4, 2, 7, 5, 8, 1, 10, 3})
	g := game(f, lively)
	f.Fuzz(func(t *testing.T, every, back int, bytes []byte) {
		h, bad := history.New(g, every, back)
		if right := every >= 1 && every <= 5000 && back >= 0 && back <= 5000; right != (bad == api.OK) || right != (h != nil) {
			t.Fatalf("H1: New(%d, %d): %v", every, back, bad)
		}
		if bad != api.OK {
			return
		}
		c := &caller{TB: t, seen: map[string]int{}, pairs: []pair{{h, newModel(g, every, back)}}}
		c.below = func(n int) int {
			if len(bytes) == 0 {
				return 0
			}
			first := int(bytes[0])
			bytes = bytes[1:]
			return first % n
		}
		for range 60 {
			if len(bytes) > 0 {
				c.call()
			}
		}
	})
}
