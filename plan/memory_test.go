package plan_test

import (
	"fmt"
	"math/rand"
	"slices"
	"sync"
	"testing"

	"hindcast/api"
	"hindcast/plan"
)

// junk stands in the room behind lists, and must stay there.
const junk = -77

// fill writes into a list, and into the room behind it.
func fill[T any](list []T, with T) {
	list = list[:cap(list)]
	for i := range list {
		list[i] = with
	}
}

// roomy gives a list with room behind it, and junk in that.
func roomy[T any](list []T, junk T) []T {
	return append(slices.Clone(list), junk, junk, junk)[:len(list)]
}

func junkSystem() api.System {
	return api.System{With: []int{junk}, Without: []int{junk}, Reads: []int{junk}, Writes: []int{junk}, Run: api.Routine{Name: "junk"}}
}

func roomySystems(systems []api.System) []api.System {
	systems = roomy(systems, junkSystem())
	for i, s := range systems {
		systems[i].With, systems[i].Without = roomy(s.With, junk), roomy(s.Without, junk)
		systems[i].Reads, systems[i].Writes = roomy(s.Reads, junk), roomy(s.Writes, junk)
	}
	return systems
}

// whole is a list of systems with the room behind all lists.
func whole(systems []api.System) string {
	text := ""
	for _, s := range systems[:cap(systems)] {
		for _, list := range [][]int{s.With, s.Without, s.Reads, s.Writes} {
			text += fmt.Sprint(list[:cap(list)])
		}
		text += s.Run.Name
	}
	return text
}

// answers is all that a plan tells of some picks and orders.
func answers(p *plan.Plan, size int, lists [][]int) string {
	text := fmt.Sprint(p.Stages())
	for a := range size {
		for b := range size {
			text += fmt.Sprint(p.Conflict(a, b))
		}
	}
	for _, list := range lists {
		order, bad := p.Order(list)
		text += fmt.Sprint(order, bad, p.Legal(list), p.Legal(order))
	}
	return text
}

func (m model) someLists(r *rand.Rand) [][]int {
	return [][]int{nil, m.somePicks(r), m.somePicks(r), m.someOrder(r), m.someOrder(r)}
}

// TestNewWritesIntoNothing: P3 of DOC.md, what is handed to New stays as it is, with the room behind its lists, though kinds stand there in any order.
func TestNewWritesIntoNothing(t *testing.T) {
	for seed := range 300 {
		r := rand.New(rand.NewSource(int64(seed)))
		given := roomySystems(someSystems(r, 12))
		was := whole(given)
		p := plan.New(given)
		answers(p, len(given), model(given).someLists(r))
		if whole(given) != was {
			t.Fatalf("P3: what New was given is written into: %s, want %s", whole(given), was)
		}
	}
}

// TestNewKeepsNothing: P1, what is handed in may be changed later; one list may stand at several places.
func TestNewKeepsNothing(t *testing.T) {
	for seed := range 300 {
		r := rand.New(rand.NewSource(int64(seed)))
		m := someSystems(r, 12)
		lists := m.someLists(r)
		given := roomySystems(m)
		p := plan.New(given)
		want := answers(p, len(m), lists)
		for _, s := range given {
			fill(s.Reads, r.Intn(3))
			fill(s.Writes, r.Intn(3))
			fill(s.With, junk)
			fill(s.Without, junk)
		}
		fill(given, junkSystem())
		if got := answers(p, len(m), lists); got != want {
			t.Fatalf("P1: a plan changes with the systems that it was made of: %s, want %s", got, want)
		}
	}
	kinds := []int{3, 1, 3, 2}
	p := plan.New([]api.System{sys(kinds, kinds[:1]), sys(kinds[1:2], kinds[2:]), reads(kinds[1:]...)})
	kinds[0], kinds[1], kinds[2], kinds[3] = 4, 5, 6, 7
	wantStages(t, p, []int{0}, []int{1}, []int{2})
}

// TestListsWriteIntoNothing: P3 of DOC.md, picks and orders stay as they are, with the room behind them.
func TestListsWriteIntoNothing(t *testing.T) {
	for seed := range 300 {
		r := rand.New(rand.NewSource(int64(seed)))
		m := someSystems(r, 12)
		p := plan.New(m)
		for _, list := range append(m.someLists(r), []int{}) {
			given := roomy(list, junk)
			was := slices.Clone(given[:cap(given)])
			order, bad := p.Order(given)
			p.Legal(given)
			_ = append(order, junk)
			fill(order, junk)
			if !slices.Equal(given[:cap(given)], was) {
				t.Fatalf("P3: Order or Legal writes into what it is given: %v, want %v; %v", given[:cap(given)], was, bad)
			}
		}
	}
}

// TestAnswersAreNewMemory: P3 of DOC.md, what is written into what Stages and Order answered, and behind it, stands nowhere else.
func TestAnswersAreNewMemory(t *testing.T) {
	for seed := range 300 {
		r := rand.New(rand.NewSource(int64(seed)))
		m := someSystems(r, 20)
		p := plan.New(m)
		lists := m.someLists(r)
		want := answers(p, len(m), lists)
		kept, order := p.Stages(), fmt.Sprint(p.Order(nil))
		stages := p.Stages()
		for _, stage := range stages {
			_ = append(stage, junk, junk)
			fill(stage, junk)
		}
		_ = append(stages, []int{junk})
		fill(stages, []int{junk})
		for _, picks := range lists {
			one, _ := p.Order(picks)
			_ = append(one, junk, junk)
			fill(one, junk)
		}
		if got := answers(p, len(m), lists); got != want {
			t.Fatalf("P3: answers share memory with their plan: %s, want %s", got, want)
		}
		if fmt.Sprint(kept) != fmt.Sprint(m.stages()) || fmt.Sprint(p.Order(nil)) != order {
			t.Fatalf("P3: two answers share memory: %v", kept)
		}
	}
}

// TestStagesAreApart: P3 of DOC.md, no two stages of one answer share memory, nor does the room behind them.
func TestStagesAreApart(t *testing.T) {
	r := rand.New(rand.NewSource(7))
	for range 200 {
		m := someSystems(r, 20)
		p := plan.New(m)
		for i := range p.Stages() {
			got, want := p.Stages(), m.stages()
			_ = append(got[i], junk, junk, junk)
			fill(got[i], junk)
			got[i], want[i] = nil, nil
			if !slices.EqualFunc(got, want, slices.Equal[[]int]) {
				t.Fatalf("P3: the stage %d shares memory with another one: %v", i, got)
			}
		}
	}
}

// TestErrnos: P2 and P5 of DOC.md, an Order that does not go answers a number, which is an error, and nothing else.
func TestErrnos(t *testing.T) {
	p := plan.New(twoStages())
	for _, picks := range [][]int{{0}, {0, 0, 0, 0, 1}, {0, 0, 0, 0, -1}, {3, 0, 0, 0, 0}} {
		order, bad := p.Order(picks)
		var err error = bad
		if order != nil || err != api.ErrPick || err.Error() != "hindcast: error 180" {
			t.Errorf("P5: Order(%v): %v, %v", picks, order, err)
		}
	}
}

// TestSameAgain: P4 of DOC.md, plans of the same systems answer the same, time and again, whatever was asked between.
func TestSameAgain(t *testing.T) {
	for seed := range 60 {
		r := rand.New(rand.NewSource(int64(seed)))
		m := someSystems(r, 16)
		lists := m.someLists(r)
		p := plan.New(m)
		want := answers(p, len(m), lists)
		for range 5 {
			answers(p, len(m), m.someLists(r))
			for _, other := range []*plan.Plan{p, plan.New(m)} {
				if got := answers(other, len(m), lists); got != want {
					t.Fatalf("P4: of %v\nanother answer: %s, want %s", m, got, want)
				}
			}
		}
	}
}

// TestSideBySide: P4 of DOC.md, one plan may be asked by many at a time, and plans may be made at a time of the same systems.
func TestSideBySide(t *testing.T) {
	r := rand.New(rand.NewSource(5))
	m := someSystems(r, 16)
	for len(m) < 8 {
		m = someSystems(r, 16)
	}
	lists := m.someLists(r)
	shared := plan.New(m)
	want := answers(shared, len(m), lists)
	var group sync.WaitGroup
	for range 8 {
		group.Go(func() {
			for range 50 {
				for _, p := range []*plan.Plan{shared, plan.New(m)} {
					for _, stage := range p.Stages() {
						fill(stage, junk)
					}
					if got := answers(p, len(m), lists); got != want {
						t.Errorf("P4: another answer beside others: %s, want %s", got, want)
						return
					}
				}
			}
		})
	}
	group.Wait()
}

// FuzzCalls: P1 of DOC.md, and P2 to P5, any systems, picks and orders, against the model.
func FuzzCalls(f *testing.F) {
	f.Add(int64(1), []byte{1, 0, 2, 3}, 1, 2)
	f.Add(int64(2), []byte{}, -1, 0)
	f.Add(int64(3), []byte{255, 254, 0, 0, 1, 1, 128, 127}, 1<<40, -1<<40)
	f.Fuzz(func(t *testing.T, seed int64, bytes []byte, a, b int) {
		r := rand.New(rand.NewSource(seed))
		m := someSystems(r, 24)
		for i, s := range m {
			if i%5 == 0 {
				m[i].Reads = append(s.Reads, a)
				m[i].Writes = append(s.Writes, b)
			}
		}
		p := plan.New(m)
		compare(t, r, m, p, map[string]int{})
		list := make([]int, len(bytes))
		for i, x := range bytes {
			list[i] = int(int8(x))
		}
		if got, want := p.Legal(list), m.legal(list); got != want {
			t.Fatalf("P5: of %v\nLegal(%v): %v, want %v", m, list, got, want)
		}
		got, bad := p.Order(list)
		if want, goes := m.order(list); !slices.Equal(got, want) || goes != (bad == api.OK) {
			t.Fatalf("P4: of %v\nOrder(%v): %v, %v; want %v", m, list, got, bad, want)
		}
		if p.Conflict(a, b) != m.conflict(a, b) {
			t.Fatalf("P2: of %v\nConflict(%d, %d): %v", m, a, b, p.Conflict(a, b))
		}
	})
}
