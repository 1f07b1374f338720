package branch_test

import (
	"fmt"
	"math/rand"
	"slices"
	"testing"

	"hindcast/api"
	"hindcast/branch"
	"hindcast/frame"
	"hindcast/history"
	"hindcast/world"
)

// line is a branch as the chapter's words say it: it has all worlds, and a history that nothing was cut off of.
type line struct {
	parent, frame int
	ticks         []api.Tick
	picks         [][]int
	worlds        []*world.World
	history       *history.History
	gone          bool
}

func (l *line) last() int { return len(l.worlds) - 1 }

func (l *line) snapshot(f int) string { return string(l.worlds[f].Snapshot()) }

// model is a tree as the chapter's words say it: all its lines, those that were dropped with them.
type model struct {
	game        *frame.Game
	every, back int
	lines       []*line
}

func newModel(g *frame.Game, every, back int) *model {
	m := &model{game: g, every: every, back: back}
	m.lines = []*line{m.line(-1, 0)}
	return m
}

func (m *model) line(parent, f int) *line {
	h, _ := history.New(m.game, m.every, m.back)
	return &line{parent: parent, frame: f, worlds: []*world.World{m.game.Start()}, history: h}
}

// find gives a line that is there; nil, if there is none.
func (m *model) find(n int) *line {
	if n < 0 || n >= len(m.lines) || m.lines[n].gone {
		return nil
	}
	return m.lines[n]
}

func (m *model) all() []int {
	var all []int
	for n := range m.lines {
		if m.find(n) != nil {
			all = append(all, n)
		}
	}
	return all
}

func (m *model) step(l *line, tick api.Tick, picks []int) (api.Report, api.Errno) {
	if l.last() == 5000 {
		return api.Report{}, api.ErrFull
	}
	next, report, bad := m.game.Step(l.worlds[l.last()], l.last()+1, tick, picks)
	if bad == api.OK {
		l.ticks, l.picks, l.worlds = append(l.ticks, tick), append(l.picks, picks), append(l.worlds, next)
		l.history.Record(tick, picks)
	}
	return report, bad
}

func (m *model) record(n int, tick api.Tick, picks []int) (api.Report, api.Errno) {
	l := m.find(n)
	if l == nil {
		return api.Report{}, api.ErrBranch
	}
	return m.step(l, tick, picks)
}

// mayFork tells the first error of a Fork.
func (m *model) mayFork(n, f int) api.Errno {
	l := m.find(n)
	if l == nil {
		return api.ErrBranch
	}
	if f < 0 || f > l.last() {
		return api.ErrFrame
	}
	if len(m.all()) >= 20 {
		return api.ErrFull
	}
	return api.OK
}

func (m *model) fork(n, f int) (int, api.Errno) {
	if bad := m.mayFork(n, f); bad != api.OK {
		return 0, bad
	}
	l := m.line(n, f)
	for k := range f {
		m.step(l, m.lines[n].ticks[k], m.lines[n].picks[k])
	}
	m.lines = append(m.lines, l)
	return len(m.lines) - 1, api.OK
}

func (m *model) replace(n, f int, inputs [][]api.Input) (int, api.Errno) {
	if bad := m.mayFork(n, f); bad != api.OK {
		return 0, bad
	}
	for _, list := range inputs {
		if len(list) > 32 {
			return 0, api.ErrArg
		}
	}
	made, _ := m.fork(n, f)
	for k := f; k < m.lines[n].last() && k-f < len(inputs); k++ {
		m.step(m.lines[made], with(m.lines[n].ticks[k], inputs[k-f]), m.lines[n].picks[k])
	}
	return made, api.OK
}

func (m *model) drop(n int) api.Errno {
	if m.find(n) == nil {
		return api.ErrBranch
	}
	if n == 0 {
		return api.ErrState
	}
	m.lines[n].gone = true
	return api.OK
}

// ancestry is the row of a branch, its parent, that one's parent, and so on.
func (m *model) ancestry(n int) []int {
	var row []int
	for ; n >= 0; n = m.lines[n].parent {
		row = append(row, n)
	}
	return row
}

func (m *model) meet(a, b int) (int, api.Errno) {
	if m.find(a) == nil || m.find(b) == nil {
		return 0, api.ErrBranch
	}
	if a == b {
		return m.lines[a].last(), api.OK
	}
	rows := [2][]int{m.ancestry(a), m.ancestry(b)}
	c := 0
	for c = range rows[0] {
		if slices.Contains(rows[1], rows[0][c]) {
			break
		}
	}
	least := 5001
	for _, row := range rows {
		for _, n := range row {
			if n == rows[0][c] {
				break
			}
			least = min(least, m.lines[n].frame)
		}
	}
	return least, api.OK
}

// caller makes calls that are left to chance, or to bytes, of a tree and its model.
type caller struct {
	testing.TB
	below func(n int) int // 0 up to n, without n
	b     *branch.Tree
	m     *model
	seen  map[string]int
}

func (c *caller) chance(of int) bool { return c.below(of) == 0 }

// someBranch is mostly one that is there.
func (c *caller) someBranch() int {
	if c.chance(12) {
		return c.below(len(c.m.lines)+3) - 1
	}
	all := c.m.all()
	return all[c.below(len(all))]
}

// someFrame is mostly one of that branch.
func (c *caller) someFrame(n int) int {
	if l := c.m.find(n); l != nil {
		if c.chance(3) {
			return l.last() - c.below(min(l.last()+1, 3))
		}
		return c.below(l.last()+3) - 1
	}
	return c.below(4) - 1
}

func (c *caller) someInputs() []api.Input {
	switch c.below(20) {
	case 0:
		return make([]api.Input, 32+c.below(2))
	case 1:
		return []api.Input{}
	case 2:
		return nil
	}
	return tickOf(c.below(200)).Inputs
}

// call makes one, and holds all that can be told without a Seek.
func (c *caller) call() {
	n := c.someBranch()
	f := c.someFrame(n)
	switch c.below(12) {
	case 0, 1, 2, 3:
		c.record(n)
	case 4, 5, 6, 7:
		c.seek(n, f)
	case 8:
		want, wantBad := c.m.fork(n, f)
		got, bad := c.b.Fork(n, f)
		c.wantNumber("Fork", got, bad, want, wantBad)
	case 9, 10:
		c.replace(n, f)
	default:
		want := c.m.drop(n)
		if bad := c.b.Drop(n); bad != want {
			c.Fatalf("N5: Drop(%d): %v, want %v", n, bad, want)
		}
		c.seen[fmt.Sprint("Drop ", int(want))]++
	}
	c.holds()
}

func (c *caller) wantNumber(what string, got int, bad api.Errno, want int, wantBad api.Errno) {
	if got != want || bad != wantBad {
		c.Fatalf("N3, N4: %s: %d, %v, want %d, %v", what, got, bad, want, wantBad)
	}
	c.seen[fmt.Sprint(what, " ", int(bad))]++
}

func (c *caller) record(n int) {
	tick, picks := with(tickOf(c.below(200)), c.someInputs()), picksOf(c.below(6))
	if c.chance(12) {
		picks = []int{c.below(3), 0, c.below(2)}
	}
	want, wantBad := c.m.record(n, tick, picks)
	got, bad := c.b.Record(n, tick, picks)
	if bad != wantBad || fmt.Sprint(got) != fmt.Sprint(want) {
		c.Fatalf("N2: Record(%d): %v, %v, want %v, %v", n, got, bad, want, wantBad)
	}
	c.seen[fmt.Sprint("Record ", int(bad))]++
}

func (c *caller) replace(n, f int) {
	var inputs [][]api.Input
	for range c.below(7) {
		inputs = append(inputs, c.someInputs())
	}
	want, wantBad := c.m.replace(n, f, inputs)
	got, bad := c.b.Replace(n, f, inputs)
	c.wantNumber("Replace", got, bad, want, wantBad)
}

func (c *caller) seek(n, f int) {
	var want api.Cost
	snapshot, wantBad := "", api.ErrBranch
	if l := c.m.find(n); l != nil {
		if _, want, wantBad = l.history.Seek(f); wantBad == api.OK {
			snapshot = l.snapshot(f)
		}
	}
	w, got, bad := c.b.Seek(n, f)
	if bad != wantBad || got != want || (w == nil) != (bad != api.OK) {
		c.Fatalf("N6: every %d, back %d: Seek(%d, %d): %v, %v, want %v, %v", c.m.every, c.m.back, n, f, got, bad, want, wantBad)
	}
	if w != nil {
		if string(w.Snapshot()) != snapshot {
			c.Fatalf("N6: Seek(%d, %d): the world is another one", n, f)
		}
		spoilWorld(w)
	}
	c.seen[fmt.Sprint("Seek ", int(bad))]++
}

// holds holds the numbers, lengths, parents and meets against the model.
func (c *caller) holds() {
	if got, want := c.b.All(), c.m.all(); !slices.Equal(got, want) {
		c.Fatalf("N7: All: %v, want %v", got, want)
	}
	for n := -1; n <= len(c.m.lines); n++ {
		want, wantBad := [3]int{}, api.ErrBranch
		if l := c.m.find(n); l != nil {
			want, wantBad = [3]int{l.last(), l.parent, l.frame}, api.OK
		}
		last, bad := c.b.Len(n)
		parent, f, worse := c.b.Parent(n)
		if got := [3]int{last, parent, f}; got != want || bad != wantBad || worse != wantBad {
			c.Fatalf("N6, N7: Len(%d) and Parent: %v, %v, %v, want %v, %v", n, got, bad, worse, want, wantBad)
		}
		for m := -1; m <= len(c.m.lines); m++ {
			want, wantBad := c.m.meet(n, m)
			if got, bad := c.b.Meet(n, m); got != want || bad != wantBad {
				c.Fatalf("N7: Meet(%d, %d): %d, %v, want %d, %v", n, m, got, bad, want, wantBad)
			}
		}
	}
}

// sweep seeks all frames of all branches.
func (c *caller) sweep() {
	for _, n := range c.m.all() {
		last := c.m.lines[n].last()
		for i := range last + 1 {
			c.seek(n, i*5%(last+1))
			c.seek(n, last-i)
		}
	}
}

// TestModel: N1 to N7, calls in all orders against what the chapter's words say.
func TestModel(t *testing.T) {
	seen := map[string]int{}
	g := game(t, lively)
	for seed := range 60 {
		r := rand.New(rand.NewSource(int64(seed)))
		every, back := 1+r.Intn(6), r.Intn(9)
		if seed%10 == 0 {
			every, back = 1+r.Intn(5000), r.Intn(5001)
		}
		c := &caller{TB: t, below: r.Intn, b: newTree(t, g, every, back), m: newModel(g, every, back), seen: seen}
		for range 150 {
			c.call()
		}
		c.sweep()
	}
	for _, what := range []string{"Record 0", "Record 1", "Record 180", "Record 220", "Fork 0", "Fork 40", "Fork 210", "Fork 220", "Replace 0", "Replace 1", "Replace 40", "Replace 210", "Replace 220", "Drop 0", "Drop 2", "Drop 220", "Seek 0", "Seek 210", "Seek 220"} {
		if seen[what] < 20 {
			t.Errorf("the test's own calls: %s was seen %d times", what, seen[what])
		}
	}
}

// FuzzCalls: P1 of DOC.md, and N1 to N7, any calls against the model.
func FuzzCalls(f *testing.F) {
	f.Add(3, 2, []byte{1, 0, 1, 0, 0, 9, 1, 0, 1, 0, 1, 9, 1, 0, 1, 0, 8, 1, 1, 1, 1, 9, 4, 5, 6})
	f.Add(0, -1, []byte{})
	f.Add(5000, 5000, []byte{1, 0, 1, 1, 3, 7, 2, 1, 1, 0, 1, 1, 10, 3, 4, 5, 6, 7})
	f.Add(1, 0, []byte{1, 0, 0, 0, 8, 1, 0, 0, 0, 8, 1, 1, 0, 0, 11, 1, 2, 0, 0, 4})
	g := game(f, lively)
	f.Fuzz(func(t *testing.T, every, back int, bytes []byte) {
		b, bad := branch.New(g, every, back)
		if right := every >= 1 && every <= 5000 && back >= 0 && back <= 5000; right != (bad == api.OK) || right != (b != nil) {
			t.Fatalf("N1: New(%d, %d): %v", every, back, bad)
		}
		if bad != api.OK {
			return
		}
		c := &caller{TB: t, b: b, m: newModel(g, every, back), seen: map[string]int{}}
		c.below = func(n int) int {
			if len(bytes) == 0 {
				return 0
			}
			first := int(bytes[0])
			bytes = bytes[1:]
			return first % n
		}
		for range 60 {
			if len(bytes) > 0 {
				c.call()
			}
		}
		c.sweep()
	})
}
