package plan_test

import (
	"fmt"
	"math/rand"
	"slices"
	"testing"

	"hindcast/api"
	"hindcast/plan"
)

// legalOrders are all legal orders of the systems that are left, behind those that stand already.
func legalOrders(p *plan.Plan, stand, left []int) [][]int {
	if len(left) == 0 {
		if !p.Legal(stand) {
			return nil
		}
		return [][]int{slices.Clone(stand)}
	}
	var all [][]int
	for i, number := range left {
		rest := slices.Delete(slices.Clone(left), i, i+1)
		all = append(all, legalOrders(p, append(slices.Clone(stand), number), rest)...)
	}
	return all
}

// upTo is 0 to n - 1.
func upTo(n int) []int {
	list := make([]int, n)
	for i := range list {
		list[i] = i
	}
	return list
}

// reached are the orders to which one comes from this one by changing places of two neighbours that do not conflict.
func reached(t *testing.T, p *plan.Plan, from []int) map[string]int {
	seen := map[string]int{fmt.Sprint(from): 1}
	for work := [][]int{from}; len(work) > 0; work = work[1:] {
		for i := 1; i < len(from); i++ {
			next := slices.Clone(work[0])
			next[i-1], next[i] = next[i], next[i-1]
			if p.Conflict(next[i-1], next[i]) || seen[fmt.Sprint(next)] > 0 {
				continue
			}
			if !p.Legal(next) {
				t.Fatalf("P5: %v is not legal, though it comes of %v by two that do not conflict", next, work[0])
			}
			seen[fmt.Sprint(next)] = 1
			work = append(work, next)
		}
	}
	return seen
}

// TestNeighbours: what follows, from any legal order one comes to any other one by neighbours that do not conflict.
func TestNeighbours(t *testing.T) {
	most := 0
	for seed := range 150 {
		r := rand.New(rand.NewSource(int64(seed)))
		m := someSystems(r, 5)
		p := plan.New(m)
		all := legalOrders(p, nil, upTo(len(m)))
		most = max(most, len(all))
		for _, from := range []int{0, r.Intn(len(all))} {
			seen := reached(t, p, all[from])
			if len(seen) != len(all) {
				t.Fatalf("P5: of %v\nfrom %v one comes to %d orders; %d are legal", m, all[from], len(seen), len(all))
			}
		}
	}
	if most < 24 {
		t.Errorf("the test's own systems: at most %d legal orders", most)
	}
}

// TestNoFewerStages: what follows, each system stands in a later stage than those ahead of it with which it conflicts, and no other stages are fewer: there is a chain of conflicts from the first stage to each one.
func TestNoFewerStages(t *testing.T) {
	for seed := range 500 {
		r := rand.New(rand.NewSource(int64(seed)))
		m := someSystems(r, 30)
		p := plan.New(m)
		stages := p.Stages()
		own := make([]int, len(m))
		count := 0
		for s, stage := range stages {
			if len(stage) == 0 || !slices.IsSorted(stage) {
				t.Fatalf("P3: of %v\nthe stage %d: %v", m, s, stage)
			}
			for _, number := range stage {
				own[number] = s
			}
			count += len(stage)
		}
		if count != len(m) {
			t.Fatalf("P3: of %v\n%v: %d systems", m, stages, count)
		}
		for b := range m {
			chained := own[b] == 0
			for a := range b {
				if p.Conflict(a, b) && own[a] >= own[b] {
					t.Fatalf("P3: of %v\n%d and %d conflict, and stand in the stages %d and %d", m, a, b, own[a], own[b])
				}
				chained = chained || p.Conflict(a, b) && own[a] == own[b]-1
			}
			if !chained {
				t.Fatalf("P3: of %v\n%d could stand in an earlier stage than %d", m, b, own[b])
			}
		}
	}
}

// TestAllPicksAreLegal: what follows, what Order answers is legal, and other picks that go answer another order.
func TestAllPicksAreLegal(t *testing.T) {
	for seed := range 60 {
		r := rand.New(rand.NewSource(int64(seed)))
		m := someSystems(r, 6)
		p := plan.New(m)
		want := 1
		for _, stage := range p.Stages() {
			for size := len(stage); size > 1; size-- {
				want *= size
			}
		}
		seen := map[string]int{}
		for code := range power(len(m)) {
			picks := make([]int, len(m))
			for i := range picks {
				picks[i] = code % len(m)
				code /= len(m)
			}
			if order, bad := p.Order(picks); bad == api.OK {
				if !p.Legal(order) {
					t.Fatalf("P5: of %v\nOrder(%v): %v, which is not legal", m, picks, order)
				}
				seen[fmt.Sprint(order)]++
			}
		}
		if len(seen) != want {
			t.Fatalf("P4: of %v\n%d orders, want %d", m, len(seen), want)
		}
	}
}

// power is n to the n.
func power(n int) int {
	all := 1
	for range n {
		all *= n
	}
	return all
}
