package plan_test

import (
	"fmt"
	"math"
	"slices"
	"testing"

	"hindcast/api"
	"hindcast/plan"
)

// sys is a system that reads and writes these kinds.
func sys(reads, writes []int) api.System { return api.System{Reads: reads, Writes: writes} }

func reads(kinds ...int) api.System { return api.System{Reads: kinds} }

func writes(kinds ...int) api.System { return api.System{Writes: kinds} }

// example are the systems of the chapter's example.
func example() []api.System {
	return []api.System{writes(1), sys([]int{1}, []int{2}), writes(3), reads(3, 2)}
}

func wantStages(t testing.TB, p *plan.Plan, want ...[]int) {
	t.Helper()
	if got := p.Stages(); !slices.EqualFunc(got, want, slices.Equal[[]int]) {
		t.Errorf("P3: Stages: %v, want %v", got, want)
	}
}

func wantOrder(t testing.TB, p *plan.Plan, picks []int, want ...int) {
	t.Helper()
	if got, bad := p.Order(picks); !slices.Equal(got, want) || bad != api.OK {
		t.Errorf("P4: Order(%v): %v, %v; want %v", picks, got, bad, want)
	}
}

func wantNoOrder(t testing.TB, p *plan.Plan, picks ...int) {
	t.Helper()
	if got, bad := p.Order(picks); got != nil || bad != api.ErrPick {
		t.Errorf("P4: Order(%v): %v, %v; want ErrPick", picks, got, bad)
	}
}

func wantLegal(t testing.TB, p *plan.Plan, want bool, order ...int) {
	t.Helper()
	if got := p.Legal(order); got != want {
		t.Errorf("P5: Legal(%v): %v, want %v", order, got, want)
	}
}

func wantConflict(t testing.TB, p *plan.Plan, want bool, a, b int) {
	t.Helper()
	for _, pair := range [][2]int{{a, b}, {b, a}} {
		if got := p.Conflict(pair[0], pair[1]); got != want {
			t.Errorf("P2: Conflict(%d, %d): %v, want %v", pair[0], pair[1], got, want)
		}
	}
}

// TestExample: the chapter's example.
func TestExample(t *testing.T) {
	p := plan.New(example())
	wantStages(t, p, []int{0, 2}, []int{1}, []int{3})
	wantOrder(t, p, []int{1, 0, 0, 0}, 2, 0, 1, 3)
	wantLegal(t, p, true, 0, 1, 2, 3)
	wantLegal(t, p, true, 2, 0, 1, 3)
	wantLegal(t, p, false, 1, 0, 2, 3)
	wantNoOrder(t, p, 2, 0, 0, 0)
	wantNoOrder(t, p, 0)
	wantOrder(t, p, nil, 0, 2, 1, 3)
	for a := range 4 {
		for b := range 4 {
			near := a+b == 1 || a+b == 4 && a != b || a+b == 5
			wantConflict(t, p, near, a, b)
		}
	}
}

// TestNone: P1, a plan of no systems has one order, of nothing.
func TestNone(t *testing.T) {
	for _, systems := range [][]api.System{nil, {}} {
		p := plan.New(systems)
		if p == nil {
			t.Fatal("P1: no plan of no systems")
		}
		wantStages(t, p)
		wantOrder(t, p, nil)
		wantOrder(t, p, []int{})
		wantNoOrder(t, p, 0)
		wantNoOrder(t, p, 0, 0)
		wantLegal(t, p, true)
		wantLegal(t, p, false, 0)
		wantLegal(t, p, false, -1)
		wantConflict(t, p, false, 0, 0)
		wantConflict(t, p, false, 0, 1)
	}
}

// TestOne: P2 to P5, a system alone, though it reads what it writes.
func TestOne(t *testing.T) {
	for _, s := range []api.System{{}, reads(1), writes(1), sys([]int{1}, []int{1}), writes(1, 1), {With: []int{1}, Without: []int{1}}} {
		p := plan.New([]api.System{s})
		wantConflict(t, p, false, 0, 0)
		wantStages(t, p, []int{0})
		wantOrder(t, p, nil, 0)
		wantOrder(t, p, []int{0}, 0)
		wantNoOrder(t, p, 1)
		wantNoOrder(t, p, -1)
		wantNoOrder(t, p, 0, 0)
		wantLegal(t, p, true, 0)
		wantLegal(t, p, false)
		wantLegal(t, p, false, 1)
		wantLegal(t, p, false, 0, 0)
	}
}

// TestConflict: P2, of two systems; and what follows of it for their stages and orders.
func TestConflict(t *testing.T) {
	for _, c := range []struct {
		says     string
		one, two api.System
		want     bool
	}{
		{"nothing", api.System{}, api.System{}, false},
		{"both read", reads(1), reads(1), false},
		{"one writes what the other reads", writes(1), reads(1), true},
		{"both write", writes(1), writes(1), true},
		{"other kinds", writes(1), writes(2), false},
		{"other kinds are read", sys([]int{2}, []int{1}), sys([]int{2}, []int{3}), false},
		{"each reads what it writes itself", sys([]int{1}, []int{1}), sys([]int{2}, []int{2}), false},
		{"the second writes what the first reads", sys([]int{1}, []int{2}), sys([]int{3}, []int{1}), true},
		{"each reads what the other writes", sys([]int{1}, []int{2}), sys([]int{2}, []int{1}), true},
		{"nothing and something", api.System{}, sys([]int{1}, []int{1}), false},
		{"the last ones of lists", reads(1, 3, 5, 7, 9), writes(2, 4, 6, 8, 9), true},
		{"the first ones of lists", reads(1, 3, 5, 7, 9), writes(1, 2, 4, 6, 8), true},
		{"in the midst of lists", reads(1, 3, 5, 7, 9), writes(2, 4, 5, 6, 8), true},
		{"lists with none in common", reads(1, 3, 5, 7, 9), writes(2, 4, 6, 8, 10), false},
		{"falling lists", reads(9, 7, 5, 3, 1), writes(8, 6, 4, 2, 1), true},
		{"mixed lists", reads(5, 9, 1, 7, 3), writes(8, 2, 9, 4, 6), true},
		{"mixed lists with none in common", reads(5, 9, 1, 7, 3), writes(8, 2, 4, 6), false},
		{"twice", reads(2, 1, 2, 1), writes(3, 1, 3, 1), true},
		{"twice, none in common", reads(2, 1, 2, 1), writes(3, 4, 3, 4), false},
		{"one among its own reads", sys([]int{1, 1}, []int{1, 1}), reads(1), true},
		{"0", reads(0), writes(0), true},
		{"below 0", reads(-3), writes(-3), true},
		{"below 0 and above it", reads(-3), writes(3), false},
		{"the least number", reads(math.MinInt), writes(5, math.MinInt), true},
		{"the greatest number", reads(math.MaxInt), writes(5, math.MaxInt), true},
		{"the least and the greatest number", reads(math.MinInt), writes(math.MaxInt), false},
		{"above all kinds", reads(13), writes(13), true},
		{"64 apart", reads(1), writes(65), false},
		{"2^32 apart", reads(1), writes(1<<32 + 1), false},
		{"2^32", reads(1 << 32), writes(1 << 32), true},
		{"With", api.System{With: []int{1}}, writes(1), false},
		{"Without", api.System{Without: []int{1}}, writes(1), false},
		{"With and Without beside others", api.System{With: []int{1}, Without: []int{2}, Reads: []int{3}}, api.System{With: []int{3}, Without: []int{3}, Writes: []int{1, 2}}, false},
		{"With of both", api.System{With: []int{1}, Writes: []int{2}}, api.System{With: []int{1}, Writes: []int{3}}, false},
		{"routines that are alike", api.System{Run: api.Routine{Name: "a", Params: 1, Locals: 2, Code: []api.Instr{{Op: 1}}}}, api.System{Run: api.Routine{Name: "a", Params: 1, Locals: 2, Code: []api.Instr{{Op: 1}}}}, false},
	} {
		for _, pair := range [][]api.System{{c.one, c.two}, {c.two, c.one}} {
			t.Run(c.says, func(t *testing.T) {
				p := plan.New(pair)
				wantConflict(t, p, c.want, 0, 1)
				wantConflict(t, p, false, 0, 0)
				wantConflict(t, p, false, 1, 1)
				wantLegal(t, p, true, 0, 1)
				wantLegal(t, p, !c.want, 1, 0)
				if c.want {
					wantStages(t, p, []int{0}, []int{1})
					wantNoOrder(t, p, 1, 0)
				} else {
					wantStages(t, p, []int{0, 1})
					wantOrder(t, p, []int{1, 0}, 1, 0)
				}
			})
		}
	}
}

// TestConflictOfNobody: P2, a system that is not there conflicts with none.
func TestConflictOfNobody(t *testing.T) {
	p := plan.New([]api.System{writes(1), writes(1), writes(1)})
	wantConflict(t, p, true, 0, 2)
	for _, nobody := range []int{-1, 3, 4, -3, math.MinInt, math.MaxInt, 1 << 32, 1<<32 + 1} {
		for _, other := range []int{0, 1, 2, nobody, -1, 3} {
			wantConflict(t, p, false, nobody, other)
		}
	}
}

// TestStages: P3, each system one behind the last of those ahead of it with which it conflicts.
func TestStages(t *testing.T) {
	for _, c := range []struct {
		says    string
		systems []api.System
		want    [][]int
	}{
		{"all apart", make([]api.System, 4), [][]int{{0, 1, 2, 3}}},
		{"all write one kind", []api.System{writes(1), writes(1), writes(1)}, [][]int{{0}, {1}, {2}}},
		{"all read one kind", []api.System{reads(1), reads(1), reads(1)}, [][]int{{0, 1, 2}}},
		{"a writer behind readers", []api.System{reads(1), reads(1), writes(1)}, [][]int{{0, 1}, {2}}},
		{"readers behind a writer", []api.System{writes(1), reads(1), reads(1)}, [][]int{{0}, {1, 2}}},
		{"a writer among readers", []api.System{reads(1), writes(1), reads(1)}, [][]int{{0}, {1}, {2}}},
		{"readers, a writer, readers, a writer", []api.System{reads(1), reads(1), writes(1), reads(1), reads(1), writes(1)}, [][]int{{0, 1}, {2}, {3, 4}, {5}}},
		{"only those ahead count", []api.System{reads(2), writes(1), sys([]int{1}, []int{2})}, [][]int{{0, 1}, {2}}},
		{"the greatest of several", []api.System{writes(1), writes(1), writes(2), sys([]int{2}, []int{1})}, [][]int{{0, 2}, {1}, {3}}},
		{"not the last of several", []api.System{writes(1), sys([]int{1}, []int{2}), writes(3), reads(2, 3)}, [][]int{{0, 2}, {1}, {3}}},
		{"back into the first stage", []api.System{writes(1), writes(1), writes(1), writes(2), writes(2)}, [][]int{{0, 3}, {1, 4}, {2}}},
		{"a later reader has a lower stage", []api.System{writes(1), writes(1), sys([]int{1, 9}, nil), reads(9), writes(9)}, [][]int{{0, 3}, {1}, {2}, {4}}},
		{"a system conflicts by its reads alone", []api.System{writes(5), writes(6), sys([]int{5}, []int{7}), sys([]int{7}, []int{8})}, [][]int{{0, 1}, {2}, {3}}},
		{"by writes what was only read", []api.System{sys([]int{1}, []int{2}), sys([]int{2}, []int{3}), sys(nil, []int{1, 2})}, [][]int{{0}, {1}, {2}}},
		{"between stages there is room", []api.System{writes(1), writes(1), writes(1), writes(2), sys([]int{2}, nil), writes(2)}, [][]int{{0, 3}, {1, 4}, {2, 5}}},
		{"reads and writes of one kind", []api.System{sys([]int{1}, []int{1}), sys([]int{1}, []int{1}), reads(1)}, [][]int{{0}, {1}, {2}}},
		{"With and Without count for nothing", []api.System{{With: []int{1}, Writes: []int{2}}, {Without: []int{2}, Writes: []int{1}}, {With: []int{1, 2}}}, [][]int{{0, 1, 2}}},
	} {
		t.Run(c.says, func(t *testing.T) {
			p := plan.New(c.systems)
			wantStages(t, p, c.want...)
			wantOrder(t, p, nil, slices.Concat(c.want...)...)
			wantOrder(t, p, make([]int, len(c.systems)), slices.Concat(c.want...)...)
		})
	}
}

// twoStages are three systems of the first stage, and two of the second: 0 1 3, then 2 4.
func twoStages() []api.System {
	return []api.System{writes(1), writes(2), reads(1), writes(3), reads(2)}
}

// TestOrder: P4, of each stage those that are picked of those that are left.
func TestOrder(t *testing.T) {
	p := plan.New(twoStages())
	wantStages(t, p, []int{0, 1, 3}, []int{2, 4})
	for _, c := range []struct{ picks, want []int }{
		{nil, []int{0, 1, 3, 2, 4}},
		{[]int{}, []int{0, 1, 3, 2, 4}},
		{[]int{0, 0, 0, 0, 0}, []int{0, 1, 3, 2, 4}},
		{[]int{0, 1, 0, 0, 0}, []int{0, 3, 1, 2, 4}},
		{[]int{1, 0, 0, 0, 0}, []int{1, 0, 3, 2, 4}},
		{[]int{1, 1, 0, 0, 0}, []int{1, 3, 0, 2, 4}},
		{[]int{2, 0, 0, 0, 0}, []int{3, 0, 1, 2, 4}},
		{[]int{2, 1, 0, 0, 0}, []int{3, 1, 0, 2, 4}},
		{[]int{0, 0, 0, 1, 0}, []int{0, 1, 3, 4, 2}},
		{[]int{2, 1, 0, 1, 0}, []int{3, 1, 0, 4, 2}},
	} {
		wantOrder(t, p, c.picks, c.want...)
		wantLegal(t, p, true, c.want...)
	}
}

// TestWrongPicks: P4, ErrPick at each place where a pick is below 0, or not below how many are left, and if there are not just as many.
func TestWrongPicks(t *testing.T) {
	p := plan.New(twoStages())
	left := []int{3, 2, 1, 2, 1}
	for at, size := range left {
		for _, pick := range []int{-1, -2, size, size + 1, 5, math.MinInt, math.MaxInt, 1 << 32, -1 << 32} {
			picks := make([]int, 5)
			picks[at] = pick
			wantNoOrder(t, p, picks...)
		}
		picks := make([]int, 5)
		picks[at] = size - 1
		if _, bad := p.Order(picks); bad != api.OK {
			t.Errorf("P4: Order(%v): %v", picks, bad)
		}
	}
	for size := range 12 {
		if size != 0 && size != 5 {
			wantNoOrder(t, p, make([]int, size)...)
		}
	}
	wantNoOrder(t, p, 0, 0, 0, 0, 0, -1)
	wantNoOrder(t, p, -1, -1, -1, -1)
	wantOrder(t, p, nil, 0, 1, 3, 2, 4) // none of these has left anything
}

// TestOrderOfOneStage: P4, each of the orders of some that are apart has its picks.
func TestOrderOfOneStage(t *testing.T) {
	const n = 5
	p := plan.New(make([]api.System, n))
	seen := map[string]int{}
	for code := range 5 * 4 * 3 * 2 {
		left, picks, want := []int{0, 1, 2, 3, 4}, []int{}, []int{}
		for size := n; size > 0; size-- {
			pick := code % size
			code /= size
			picks, want = append(picks, pick), append(want, left[pick])
			left = slices.Delete(left, pick, pick+1)
		}
		wantOrder(t, p, picks, want...)
		wantLegal(t, p, true, want...)
		seen[fmt.Sprint(want)]++
	}
	if len(seen) != 120 {
		t.Errorf("the test's own orders: %d", len(seen))
	}
}

// TestLegal: P5, all systems, each once, those that conflict by their numbers.
func TestLegal(t *testing.T) {
	p := plan.New(twoStages())
	for _, c := range []struct {
		order []int
		want  bool
	}{
		{[]int{0, 1, 2, 3, 4}, true},
		{[]int{0, 2, 1, 4, 3}, true},
		{[]int{3, 1, 4, 0, 2}, true},
		{[]int{1, 4, 3, 0, 2}, true},
		{[]int{2, 0, 1, 3, 4}, false},
		{[]int{0, 4, 1, 3, 2}, false},
		{[]int{4, 3, 2, 1, 0}, false},
		{[]int{3, 4, 0, 2, 1}, false},
		{nil, false},
		{[]int{}, false},
		{[]int{0}, false},
		{[]int{0, 1, 2, 3}, false},
		{[]int{0, 1, 2, 3, 4, 4}, false},
		{[]int{0, 1, 2, 3, 4, 5}, false},
		{[]int{0, 1, 2, 3, 4, 0, 1, 2, 3, 4}, false},
		{[]int{0, 1, 2, 3, 3}, false},
		{[]int{0, 0, 2, 1, 4}, false},
		{[]int{3, 1, 0, 3, 2}, false},
		{[]int{0, 1, 2, 3, 5}, false},
		{[]int{0, 1, 2, -1, 4}, false},
		{[]int{-1, 0, 1, 2, 3}, false},
		{[]int{1, 2, 3, 4, 5}, false},
		{[]int{math.MinInt, 1, 2, 3, 4}, false},
		{[]int{0, 1, 2, 3, math.MaxInt}, false},
		{[]int{0, 1, 2, 3, 1<<32 + 4}, false},
	} {
		wantLegal(t, p, c.want, c.order...)
	}
}

// TestLegalAcross: P5, two that conflict need not stand beside each other, nor in neighbouring stages; and a kind may be read by a higher number ahead of a lower one.
func TestLegalAcross(t *testing.T) {
	p := plan.New([]api.System{reads(1), reads(1), writes(1), writes(9), writes(9), writes(9), reads(9)})
	wantLegal(t, p, true, 0, 1, 2, 3, 4, 5, 6)
	wantLegal(t, p, true, 1, 0, 2, 3, 4, 5, 6)
	wantLegal(t, p, true, 3, 4, 5, 6, 1, 0, 2)
	wantLegal(t, p, false, 1, 2, 3, 4, 5, 6, 0)
	wantLegal(t, p, false, 0, 2, 3, 4, 1, 5, 6)
	wantLegal(t, p, false, 0, 1, 2, 6, 3, 4, 5)
	wantLegal(t, p, false, 0, 1, 2, 3, 4, 6, 5)
	wantLegal(t, p, false, 5, 1, 0, 2, 4, 3, 6)

	p = plan.New([]api.System{writes(5), reads(5), reads(5), reads(5), writes(5)})
	wantLegal(t, p, true, 0, 3, 2, 1, 4)
	wantLegal(t, p, true, 0, 2, 3, 1, 4)
	wantLegal(t, p, false, 3, 0, 2, 1, 4)
	wantLegal(t, p, false, 0, 3, 2, 4, 1)
	wantLegal(t, p, false, 4, 3, 2, 1, 0)
}

// TestApart: P4 of DOC.md, plans have nothing to do with one another.
func TestApart(t *testing.T) {
	one := plan.New(example())
	two := plan.New(twoStages())
	wantStages(t, one, []int{0, 2}, []int{1}, []int{3})
	wantStages(t, two, []int{0, 1, 3}, []int{2, 4})
	plan.New(nil)
	wantOrder(t, one, nil, 0, 2, 1, 3)
	wantOrder(t, two, nil, 0, 1, 3, 2, 4)
}
