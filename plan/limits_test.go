package plan_test

import (
	"math/rand"
	"slices"
	"testing"

	"hindcast/api"
	"hindcast/plan"
)

const many = 200000

// TestManyApart: P1, very many systems of one stage, in any order.
func TestManyApart(t *testing.T) {
	p := plan.New(make([]api.System, many))
	all := upTo(many)
	wantSame(t, "P3: the only stage", slices.Concat(p.Stages()...), all)
	if len(p.Stages()) != 1 {
		t.Errorf("P3: %d stages", len(p.Stages()))
	}
	order, bad := p.Order(nil)
	wantSame(t, "P4: no picks", order, all)
	if bad != api.OK || !p.Legal(order) {
		t.Errorf("P4: no picks: %v; legal: %v", bad, p.Legal(order))
	}
	picks := make([]int, many)
	for i := range picks {
		picks[i] = many - 1 - i
	}
	order, bad = p.Order(picks)
	slices.Reverse(all)
	wantSame(t, "P4: the last ones first", order, all)
	if bad != api.OK || !p.Legal(order) {
		t.Errorf("P4: the last ones first: %v; legal: %v", bad, p.Legal(order))
	}
	r := rand.New(rand.NewSource(1))
	for i := range picks {
		picks[i] = r.Intn(many - i)
	}
	order, bad = p.Order(picks)
	if bad != api.OK || !p.Legal(order) {
		t.Errorf("P4: mixed: %v; legal: %v", bad, p.Legal(order))
	}
	picks[many-1] = 1
	if order, bad = p.Order(picks); bad != api.ErrPick || order != nil {
		t.Errorf("P4: the last pick is too great: %v", bad)
	}
	order, _ = p.Order(nil)
	order[many-1] = 0
	if p.Legal(order) {
		t.Errorf("P5: one stands twice")
	}
}

func wantSame(t *testing.T, says string, got, want []int) {
	t.Helper()
	if !slices.Equal(got, want) {
		t.Errorf("%s: %d numbers, want %d others", says, len(got), len(want))
	}
}

// TestManyInLine: P1, very many systems, each of which conflicts with all others.
func TestManyInLine(t *testing.T) {
	systems := make([]api.System, many)
	for i := range systems {
		systems[i] = sys([]int{1}, []int{1})
	}
	p := plan.New(systems)
	wantSame(t, "P3: one each", slices.Concat(p.Stages()...), upTo(many))
	if len(p.Stages()) != many {
		t.Errorf("P3: %d stages", len(p.Stages()))
	}
	order, bad := p.Order(make([]int, many))
	wantSame(t, "P4", order, upTo(many))
	if bad != api.OK || !p.Legal(order) || !p.Conflict(0, many-1) || p.Conflict(0, many) {
		t.Errorf("P2, P4, P5: %v", bad)
	}
	order[0], order[many-1] = order[many-1], order[0]
	if p.Legal(order) {
		t.Errorf("P5: the last one stands first")
	}
	order, _ = p.Order(nil)
	order[many-2], order[many-1] = order[many-1], order[many-2]
	if p.Legal(order) {
		t.Errorf("P5: the last one stands ahead of its neighbour")
	}
}

// TestManyBehindManyStages: P1, very many systems of the first stage behind very many stages.
func TestManyBehindManyStages(t *testing.T) {
	systems := make([]api.System, many)
	for i := range systems {
		systems[i] = writes(1)
		if i >= many/2 {
			systems[i] = sys([]int{2}, []int{i})
		}
	}
	p := plan.New(systems)
	stages := p.Stages()
	if len(stages) != many/2 || len(stages[0]) != many/2+1 || len(stages[1]) != 1 {
		t.Fatalf("P3: %d stages, the first of %d", len(stages), len(stages[0]))
	}
	order, bad := p.Order(nil)
	if bad != api.OK || !p.Legal(order) || !p.Legal(upTo(many)) {
		t.Errorf("P4, P5: %v", bad)
	}
}

// TestLongLists: P1 and P2, systems with very many kinds, rising, falling and twice.
func TestLongLists(t *testing.T) {
	even, odd := make([]int, many), make([]int, many)
	for i := range even {
		even[i], odd[i] = i/2*2, (many-i)/2*2+1
	}
	systems := []api.System{sys(even, even), sys(odd, odd), sys(even, odd), reads(many), reads(many - 2), writes(odd...)}
	p := plan.New(systems)
	wantStages(t, p, []int{0, 1, 3}, []int{2, 4}, []int{5})
	wantConflict(t, p, false, 0, 1)
	wantConflict(t, p, true, 0, 2)
	wantConflict(t, p, true, 1, 2)
	wantConflict(t, p, false, 0, 3)
	wantConflict(t, p, true, 0, 4)
	wantConflict(t, p, false, 2, 4)
	wantLegal(t, p, true, 3, 1, 0, 4, 2, 5)
	wantLegal(t, p, false, 3, 1, 4, 0, 2, 5)
}
