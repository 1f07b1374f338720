package plan_test

import (
	"fmt"
	"math"
	"math/rand"
	"slices"
	"testing"

	"hindcast/api"
	"hindcast/plan"
)

// model is a plan as the chapter's words say it.
type model []api.System

func common(a, b []int) bool {
	return slices.ContainsFunc(a, func(kind int) bool { return slices.Contains(b, kind) })
}

// conflict: one of them writes a kind that the other one reads or writes.
func (m model) conflict(a, b int) bool {
	if a == b || a < 0 || b < 0 || a >= len(m) || b >= len(m) {
		return false
	}
	one, other := m[a], m[b]
	return common(one.Writes, other.Reads) || common(one.Writes, other.Writes) || common(other.Writes, one.Reads)
}

// stage: one more than the greatest of those ahead that conflict.
func (m model) stages() [][]int {
	own := make([]int, len(m))
	var stages [][]int
	for a := range m {
		for b := range a {
			if m.conflict(a, b) {
				own[a] = max(own[a], own[b]+1)
			}
		}
		for len(stages) <= own[a] {
			stages = append(stages, nil)
		}
		stages[own[a]] = append(stages[own[a]], a)
	}
	return stages
}

// order is nil, and false, if the picks do not go.
func (m model) order(picks []int) ([]int, bool) {
	if len(picks) == 0 {
		return slices.Concat(m.stages()...), true
	}
	if len(picks) != len(m) {
		return nil, false
	}
	var order []int
	for _, left := range m.stages() {
		for len(left) > 0 {
			pick := picks[len(order)]
			if pick < 0 || pick >= len(left) {
				return nil, false
			}
			order = append(order, left[pick])
			left = append(slices.Clone(left[:pick]), left[pick+1:]...)
		}
	}
	return order, true
}

// legal: of all pairs.
func (m model) legal(order []int) bool {
	sorted := slices.Sorted(slices.Values(order))
	if len(sorted) != len(m) {
		return false
	}
	for i, number := range sorted {
		if i != number {
			return false
		}
	}
	for i, ahead := range order {
		for _, behind := range order[i:] {
			if ahead > behind && m.conflict(ahead, behind) {
				return false
			}
		}
	}
	return true
}

// someKinds are numbers, mostly few and small, also twice.
func someKinds(r *rand.Rand, most, kinds int) []int {
	var list []int
	for range r.Intn(most + 1) {
		kind := 1 + r.Intn(kinds)
		switch r.Intn(40) {
		case 0:
			kind = -kind
		case 1:
			kind = []int{0, math.MinInt, math.MaxInt, 1 << 32, 1<<32 + 1}[r.Intn(5)]
		}
		list = append(list, kind)
	}
	return list
}

// someSystems are up to n, which conflict seldom or often.
func someSystems(r *rand.Rand, n int) model {
	kinds, most := 1+r.Intn(12), 1+r.Intn(3)
	m := make(model, r.Intn(n+1))
	for i := range m {
		m[i] = api.System{With: someKinds(r, most, kinds), Without: someKinds(r, most, kinds), Reads: someKinds(r, most, kinds), Writes: someKinds(r, most, kinds)}
	}
	return m
}

// somePicks mostly go.
func (m model) somePicks(r *rand.Rand) []int {
	var picks []int
	for _, stage := range m.stages() {
		for size := len(stage); size > 0; size-- {
			picks = append(picks, r.Intn(size))
		}
	}
	if len(picks) > 0 && r.Intn(4) == 0 {
		switch at := r.Intn(len(picks)); r.Intn(5) {
		case 0:
			picks[at]++
		case 1:
			picks[at] = -1 - r.Intn(2)
		case 2:
			picks = picks[:at]
		case 3:
			picks = append(picks, 0)
		case 4:
			picks[at] = int(r.Uint64())
		}
	}
	return picks
}

// someOrder is one that mostly is an order, and is near a legal one.
func (m model) someOrder(r *rand.Rand) []int {
	order := r.Perm(len(m))
	if r.Intn(3) > 0 {
		slices.Sort(order)
	}
	for range r.Intn(2 * (len(m) + 1)) {
		if at := r.Intn(len(m)+1) + 1; at < len(m) && (r.Intn(20) == 0 || !m.conflict(order[at-1], order[at])) {
			order[at-1], order[at] = order[at], order[at-1]
		}
	}
	if len(order) > 0 && r.Intn(6) == 0 {
		switch at := r.Intn(len(order)); r.Intn(4) {
		case 0:
			order[at] = r.Intn(len(order))
		case 1:
			order = order[:at]
		case 2:
			order = append(order, r.Intn(len(order)+1))
		case 3:
			order[at] = []int{-1, len(order), int(r.Uint64())}[r.Intn(3)]
		}
	}
	return order
}

// compare holds a plan and the model against each other; what it saw is counted.
func compare(t *testing.T, r *rand.Rand, m model, p *plan.Plan, seen map[string]int) {
	t.Helper()
	for a := -1; a <= len(m); a++ {
		for b := -1; b <= len(m); b++ {
			if got, want := p.Conflict(a, b), m.conflict(a, b); got != want {
				t.Fatalf("P2: of %v\nConflict(%d, %d): %v, want %v", m, a, b, got, want)
			}
		}
	}
	if got, want := p.Stages(), m.stages(); !slices.EqualFunc(got, want, slices.Equal[[]int]) {
		t.Fatalf("P3: of %v\nStages: %v, want %v", m, got, want)
	}
	seen[fmt.Sprint("stages ", min(len(m.stages()), 9))]++
	for _, picks := range [][]int{nil, m.somePicks(r), m.somePicks(r), m.somePicks(r)} {
		got, bad := p.Order(picks)
		want, goes := m.order(picks)
		if !slices.Equal(got, want) || goes != (bad == api.OK) || !goes && (bad != api.ErrPick || got != nil) {
			t.Fatalf("P4: of %v\nOrder(%v): %v, %v; want %v", m, picks, got, bad, want)
		}
		if goes && !p.Legal(got) {
			t.Fatalf("P5: of %v\nOrder(%v): %v, which is not legal", m, picks, got)
		}
		seen[fmt.Sprint("order ", goes)]++
	}
	for range 6 {
		order := m.someOrder(r)
		want := m.legal(order)
		if got := p.Legal(order); got != want {
			t.Fatalf("P5: of %v\nLegal(%v): %v, want %v", m, order, got, want)
		}
		seen[fmt.Sprint("legal ", want)]++
	}
}

// TestModel: P2 to P5, plans of all sorts of systems are as the chapter's words say.
func TestModel(t *testing.T) {
	seen := map[string]int{}
	for seed := range 4000 {
		r := rand.New(rand.NewSource(int64(seed)))
		m := someSystems(r, 16)
		compare(t, r, m, plan.New(m), seen)
	}
	for _, sort := range []string{"stages 0", "stages 1", "stages 2", "stages 5", "stages 9", "order true", "order false", "legal true", "legal false"} {
		if seen[sort] < 100 {
			t.Errorf("the test's own systems: %d of the sort %s", seen[sort], sort)
		}
	}
}

// TestModelOfMany: the same, of more systems than a program may have.
func TestModelOfMany(t *testing.T) {
	seen := map[string]int{}
	for seed := range 60 {
		r := rand.New(rand.NewSource(int64(seed)))
		m := someSystems(r, 150)
		compare(t, r, m, plan.New(m), seen)
	}
	if seen["order true"] < 60 || seen["legal true"] < 20 || seen["legal false"] < 20 {
		t.Errorf("the test's own systems: %v", seen)
	}
}

// TestSmallSystems: P2 to P5, all systems of up to three that read and write some of two kinds, with all lists of up to four numbers as orders and picks.
func TestSmallSystems(t *testing.T) {
	var lists [][]int
	for size, last := 0, [][]int{{}}; size <= 4; size++ {
		lists = append(lists, last...)
		var next [][]int
		for _, list := range last {
			for n := -1; n <= 3; n++ {
				next = append(next, append(slices.Clone(list), n))
			}
		}
		last = next
	}
	sets := [][]int{nil, {1}, {2}, {1, 2}}
	for code := range 1 + 16 + 16*16 + 16*16*16 {
		var m model
		for ; code > 0; code = (code - 1) / 16 {
			m = append(m, sys(sets[(code-1)%4], sets[(code-1)/4%4]))
		}
		p := plan.New(m)
		if got, want := p.Stages(), m.stages(); !slices.EqualFunc(got, want, slices.Equal[[]int]) {
			t.Fatalf("P3: of %v\nStages: %v, want %v", m, got, want)
		}
		for _, list := range lists[:1+5+25+125] {
			if got, want := p.Legal(list), m.legal(list); got != want {
				t.Fatalf("P5: of %v\nLegal(%v): %v, want %v", m, list, got, want)
			}
			got, bad := p.Order(list)
			if want, goes := m.order(list); !slices.Equal(got, want) || goes != (bad == api.OK) {
				t.Fatalf("P4: of %v\nOrder(%v): %v, %v; want %v", m, list, got, bad, want)
			}
		}
		for _, list := range lists[1+5+25+125:] {
			if _, bad := p.Order(list); bad != api.ErrPick || p.Legal(list) {
				t.Fatalf("P4, P5: of %v\n%v goes", m, list)
			}
		}
	}
}
