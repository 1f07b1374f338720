package ids_test

import (
	"math"
	"slices"
	"testing"

	"hindcast/api"
	"hindcast/ids"
)

func e(index, gen int) api.Entity { return api.Entity{Index: index, Gen: gen} }

// fresh is a pool that never gave out a number.
func fresh(t *testing.T, most int) *ids.Pool {
	t.Helper()
	p, bad := ids.New(most)
	if bad != api.OK || p == nil {
		t.Fatalf("I1: New(%d): %v", most, bad)
	}
	return p
}

// told is the pool of which State tells this.
func told(t *testing.T, most int, gens, free []int) *ids.Pool {
	t.Helper()
	p, bad := ids.From(most, gens, free)
	if bad != api.OK || p == nil {
		t.Fatalf("I4: From(%d, %v, %v): %v", most, gens, free, bad)
	}
	return p
}

// filled is a pool all of whose numbers live, with the generation 1.
func filled(t *testing.T, most int) *ids.Pool {
	t.Helper()
	p := fresh(t, most)
	for index := range most {
		wantTake(t, p, e(index, 1))
	}
	return p
}

func wantTake(t *testing.T, p *ids.Pool, want api.Entity) {
	t.Helper()
	if got, bad := p.Take(); got != want || bad != api.OK {
		t.Errorf("I2: Take: %v, %v, want %v", got, bad, want)
	}
}

func wantFull(t *testing.T, p *ids.Pool) {
	t.Helper()
	if got, bad := p.Take(); got != (api.Entity{}) || bad != api.ErrFull {
		t.Errorf("I2: Take, where nobody is left: %v, %v", got, bad)
	}
}

func wantGive(t *testing.T, p *ids.Pool, e api.Entity, want api.Errno) {
	t.Helper()
	if bad := p.Give(e); bad != want {
		t.Errorf("I2: Give(%v): %v, want %v", e, bad, want)
	}
}

func wantState(t *testing.T, p *ids.Pool, gens, free []int) {
	t.Helper()
	if a, b := p.State(); !slices.Equal(a, gens) || !slices.Equal(b, free) {
		t.Errorf("I4: State: %v, %v, want %v, %v", a, b, gens, free)
	}
}

// wantLive holds a pool against all that live, by rising numbers, as each call of I3 tells them.
func wantLive(t *testing.T, p *ids.Pool, want ...api.Entity) {
	t.Helper()
	if got := p.All(); !slices.Equal(got, want) {
		t.Errorf("I3: All: %v, want %v", got, want)
	}
	for index := -1; index <= api.MaxEntities; index++ {
		who, bad := p.At(index)
		place := slices.IndexFunc(want, func(e api.Entity) bool { return e.Index == index })
		if place < 0 && (bad != api.ErrStale || who != (api.Entity{})) {
			t.Errorf("I3: At(%d): %v, %v, but nobody lives there", index, who, bad)
		}
		if place >= 0 && (bad != api.OK || who != want[place]) {
			t.Errorf("I3: At(%d): %v, %v, want %v", index, who, bad, want[place])
		}
		for gen := range 4 {
			if p.Lives(e(index, gen)) != slices.Contains(want, e(index, gen)) {
				t.Errorf("I3: Lives(%d %d): %v", index, gen, p.Lives(e(index, gen)))
			}
		}
	}
	for _, e := range want {
		if !p.Lives(e) {
			t.Errorf("I3: Lives(%v): false", e)
		}
	}
}

func TestNewBounds(t *testing.T) {
	for _, most := range []int{1, 2, 100, api.MaxEntities - 1, api.MaxEntities} {
		p := fresh(t, most)
		wantState(t, p, nil, nil)
		wantLive(t, p)
	}
	for _, most := range []int{0, -1, math.MinInt, api.MaxEntities + 1, math.MaxInt} {
		if p, bad := ids.New(most); p != nil || bad != api.ErrArg {
			t.Errorf("I1: New(%d): %v", most, bad)
		}
	}
}

// TestExamples: those of the chapter.
func TestExamples(t *testing.T) {
	p := fresh(t, 2)
	wantTake(t, p, e(0, 1))
	wantTake(t, p, e(1, 1))
	wantFull(t, p)
	wantGive(t, p, e(0, 1), api.OK)
	wantGive(t, p, e(0, 1), api.ErrStale)
	wantTake(t, p, e(0, 2))
	wantGive(t, p, e(1, 1), api.OK)
	wantGive(t, p, e(0, 2), api.OK)
	wantState(t, p, []int{2, 1}, []int{1, 0})
	wantTake(t, p, e(1, 2))
	wantState(t, p, []int{2, 2}, []int{0})

	p = told(t, 2, []int{3, 1}, []int{0})
	wantLive(t, p, e(1, 1))
	wantTake(t, p, e(0, 4))
}

// TestTakeToTheLast: I2, the numbers are 0 to most - 1, the least one first, each with the generation 1.
func TestTakeToTheLast(t *testing.T) {
	for _, most := range []int{1, 2, 3, api.MaxEntities - 1, api.MaxEntities} {
		p := filled(t, most)
		wantFull(t, p)
		wantFull(t, p)
		if gens, free := p.State(); len(gens) != most || len(free) != 0 || slices.Max(gens) != 1 {
			t.Errorf("I4: State of %d that live: %v, %v", most, gens, free)
		}
		wantGive(t, p, e(most, 1), api.ErrStale)
		wantGive(t, p, e(most-1, 1), api.OK)
		wantTake(t, p, e(most-1, 2))
		wantFull(t, p)
	}
}

// TestFreeRow: I2, who was given back first is given out first, ahead of numbers that never were.
func TestFreeRow(t *testing.T) {
	p := fresh(t, 5)
	for index := range 4 {
		wantTake(t, p, e(index, 1))
	}
	wantGive(t, p, e(2, 1), api.OK)
	wantGive(t, p, e(0, 1), api.OK)
	wantGive(t, p, e(3, 1), api.OK)
	wantState(t, p, []int{1, 1, 1, 1}, []int{2, 0, 3})
	wantLive(t, p, e(1, 1))
	wantTake(t, p, e(2, 2))
	wantState(t, p, []int{1, 1, 2, 1}, []int{0, 3})
	wantLive(t, p, e(1, 1), e(2, 2))
	wantGive(t, p, e(2, 2), api.OK)
	wantState(t, p, []int{1, 1, 2, 1}, []int{0, 3, 2})
	wantTake(t, p, e(0, 2))
	wantTake(t, p, e(3, 2))
	wantTake(t, p, e(2, 3))
	wantState(t, p, []int{2, 1, 3, 2}, nil)
	wantTake(t, p, e(4, 1))
	wantLive(t, p, e(0, 2), e(1, 1), e(2, 3), e(3, 2), e(4, 1))
	wantFull(t, p)
}

// TestGiveStale: I2, whom Give refuses; P2, and that nothing is changed by it.
func TestGiveStale(t *testing.T) {
	p := told(t, 6, []int{4, 2, api.MaxGen + 1, api.MaxGen, 1}, []int{1})
	for _, stale := range []api.Entity{
		{}, e(0, 3), e(0, 5), e(0, 0), e(0, -4), e(0, math.MaxInt), e(0, math.MinInt),
		e(1, 0), e(1, 1), e(1, 2), e(1, 3),
		e(2, 0), e(2, api.MaxGen), e(2, api.MaxGen+1), e(2, api.MaxGen+2),
		e(3, api.MaxGen-1), e(3, api.MaxGen+1), e(3, 0),
		e(5, 0), e(5, 1), e(6, 0), e(6, 1), e(api.MaxEntities, 1), e(math.MaxInt, 1),
		e(-1, 0), e(-1, 1), e(-1, 4), e(math.MinInt, 1),
	} {
		wantGive(t, p, stale, api.ErrStale)
		if p.Lives(stale) {
			t.Errorf("I3: Lives(%v): true", stale)
		}
	}
	wantState(t, p, []int{4, 2, api.MaxGen + 1, api.MaxGen, 1}, []int{1})
	wantLive(t, p, e(0, 4), e(3, api.MaxGen), e(4, 1))
}

// TestNobodyYet: I2 and I3 of a pool that never gave out a number; the zero entity is nobody there.
func TestNobodyYet(t *testing.T) {
	p := fresh(t, 3)
	wantLive(t, p)
	for _, stale := range []api.Entity{{}, e(0, 1), e(1, 1), e(-1, 0), e(3, 1)} {
		wantGive(t, p, stale, api.ErrStale)
	}
	wantState(t, p, nil, nil)
	wantTake(t, p, e(0, 1))
}

// TestFarNumbers: I3, At of numbers that nobody could have.
func TestFarNumbers(t *testing.T) {
	p := filled(t, api.MaxEntities)
	for _, index := range []int{-1, -2, math.MinInt, api.MaxEntities, api.MaxEntities + 1, math.MaxInt} {
		if who, bad := p.At(index); who != (api.Entity{}) || bad != api.ErrStale {
			t.Errorf("I3: At(%d): %v, %v", index, who, bad)
		}
	}
}

// TestWornOut: a number is given out MaxGen times, each time with one more generation, and then never again.
func TestWornOut(t *testing.T) {
	p := fresh(t, 1)
	for gen := 1; gen <= api.MaxGen; gen++ {
		if got, bad := p.Take(); got != e(0, gen) || bad != api.OK {
			t.Fatalf("I2: Take for the %d. time: %v, %v", gen, got, bad)
		}
		if gens, free := p.State(); gen == api.MaxGen && (gens[0] != api.MaxGen || len(free) != 0) {
			t.Fatalf("I4: State of one that lives for the last time: %v, %v", gens, free)
		}
		if bad := p.Give(e(0, gen)); bad != api.OK {
			t.Fatalf("I2: Give for the %d. time: %v", gen, bad)
		}
	}
	wantState(t, p, []int{api.MaxGen + 1}, nil)
	wantLive(t, p)
	for _, gen := range []int{0, 1, api.MaxGen - 1, api.MaxGen, api.MaxGen + 1} {
		wantGive(t, p, e(0, gen), api.ErrStale)
	}
	wantFull(t, p)
	wantState(t, p, []int{api.MaxGen + 1}, nil)
}

// TestWornOutAmongOthers: who is worn out stands in no row, and keeps nobody else from being given out.
func TestWornOutAmongOthers(t *testing.T) {
	p := told(t, 4, []int{api.MaxGen, api.MaxGen - 1, 7}, []int{1})
	wantLive(t, p, e(0, api.MaxGen), e(2, 7))
	wantGive(t, p, e(0, api.MaxGen), api.OK)
	wantGive(t, p, e(2, 7), api.OK)
	wantState(t, p, []int{api.MaxGen + 1, api.MaxGen - 1, 7}, []int{1, 2})
	wantTake(t, p, e(1, api.MaxGen))
	wantGive(t, p, e(1, api.MaxGen), api.OK)
	wantState(t, p, []int{api.MaxGen + 1, api.MaxGen + 1, 7}, []int{2})
	wantTake(t, p, e(2, 8))
	wantTake(t, p, e(3, 1))
	wantFull(t, p)
	wantLive(t, p, e(2, 8), e(3, 1))
}

// TestAllWornOut: a pool may come to have nobody to give out, though nobody lives.
func TestAllWornOut(t *testing.T) {
	p := told(t, 2, []int{api.MaxGen + 1, api.MaxGen + 1}, nil)
	wantLive(t, p)
	wantFull(t, p)
	wantState(t, p, []int{api.MaxGen + 1, api.MaxGen + 1}, nil)
	p = told(t, 3, []int{api.MaxGen + 1, api.MaxGen + 1}, nil)
	wantTake(t, p, e(2, 1))
	wantFull(t, p)
}

func TestFrom(t *testing.T) {
	p := told(t, 5, []int{3, 1, api.MaxGen, api.MaxGen - 1}, []int{3, 0})
	wantState(t, p, []int{3, 1, api.MaxGen, api.MaxGen - 1}, []int{3, 0})
	wantLive(t, p, e(1, 1), e(2, api.MaxGen))
	wantTake(t, p, e(3, api.MaxGen))
	wantTake(t, p, e(0, 4))
	wantTake(t, p, e(4, 1))
	wantFull(t, p)

	p = told(t, 1, nil, nil)
	wantState(t, p, nil, nil)
	wantTake(t, p, e(0, 1))
	wantFull(t, p)

	p = told(t, 2, []int{1, 1}, []int{1, 0})
	wantLive(t, p)
	wantTake(t, p, e(1, 2))
}

func TestFromBounds(t *testing.T) {
	all := make([]int, api.MaxEntities)
	for i := range all {
		all[i] = i
	}
	ones := slices.Repeat([]int{1}, api.MaxEntities)
	p := told(t, api.MaxEntities, ones, all)
	wantState(t, p, ones, all)
	wantLive(t, p)
	wantTake(t, p, e(0, 2))
	wantFull(t, told(t, api.MaxEntities, ones, nil))
	wantFull(t, told(t, api.MaxEntities, slices.Repeat([]int{api.MaxGen + 1}, api.MaxEntities), nil))
	for _, c := range []struct {
		what       string
		most       int
		gens, free []int
	}{
		{"0 numbers", 0, nil, nil},
		{"-1 numbers", -1, nil, nil},
		{"the least number of numbers", math.MinInt, nil, nil},
		{"MaxEntities + 1", api.MaxEntities + 1, nil, nil},
		{"the most numbers", math.MaxInt, ones, nil},
		{"one generation more than most", api.MaxEntities - 1, ones, nil},
		{"one generation more than MaxEntities", api.MaxEntities, slices.Repeat([]int{1}, api.MaxEntities+1), nil},
		{"two generations of one", 1, []int{1, 1}, nil},
		{"many generations", 3, make([]int, 1<<20), nil},
		{"a generation 0", 3, []int{1, 0}, nil},
		{"a generation -1", 3, []int{-1, 1}, nil},
		{"the least generation", 3, []int{1, math.MinInt}, nil},
		{"MaxGen + 2", 3, []int{1, 1, api.MaxGen + 2}, nil},
		{"the greatest generation", 3, []int{math.MaxInt}, nil},
		{"a free one without a generation", 3, []int{1, 1}, []int{2}},
		{"a free one where there are none", 3, nil, []int{0}},
		{"a free one that is most", 2, []int{1, 1}, []int{0, 2}},
		{"a free one below 0", 3, []int{1, 1}, []int{1, -1}},
		{"the least free one", 3, []int{1, 1}, []int{math.MinInt}},
		{"the greatest free one", 3, []int{1, 1}, []int{math.MaxInt}},
		{"one free twice", 3, []int{1, 1}, []int{1, 1}},
		{"one free twice, apart", 3, []int{1, 1, 1}, []int{2, 0, 2}},
		{"one free for the last time", 3, []int{api.MaxGen}, []int{0}},
		{"one free that is worn out", 3, []int{1, api.MaxGen + 1}, []int{1}},
		{"many free ones", 3, []int{1, 1, 1}, make([]int, 1<<20)},
	} {
		if p, bad := ids.From(c.most, c.gens, c.free); p != nil || bad != api.ErrArg {
			t.Errorf("I4: From, %s: %v, %v", c.what, p != nil, bad)
		}
	}
}

// TestClone: I5, a clone knows the same, and neither one learns of the other one.
func TestClone(t *testing.T) {
	p := told(t, 5, []int{2, 5, api.MaxGen + 1, 1}, []int{1, 0})
	c := p.Clone()
	wantState(t, c, []int{2, 5, api.MaxGen + 1, 1}, []int{1, 0})
	wantLive(t, c, e(3, 1))
	wantTake(t, p, e(1, 6))
	wantGive(t, p, e(3, 1), api.OK)
	wantState(t, c, []int{2, 5, api.MaxGen + 1, 1}, []int{1, 0})
	wantLive(t, c, e(3, 1))
	wantTake(t, c, e(1, 6))
	wantTake(t, c, e(0, 3))
	wantTake(t, c, e(4, 1))
	wantFull(t, c)
	wantState(t, p, []int{2, 6, api.MaxGen + 1, 1}, []int{0, 3})
	wantLive(t, p, e(1, 6))
	wantGive(t, c, e(1, 6), api.OK)
	wantGive(t, c, e(0, 3), api.OK)
	wantState(t, c, []int{3, 6, api.MaxGen + 1, 1, 1}, []int{1, 0})
	wantState(t, p, []int{2, 6, api.MaxGen + 1, 1}, []int{0, 3})
}

// TestCloneOfNobody: I5, of a pool that never gave out a number; it has as many as that.
func TestCloneOfNobody(t *testing.T) {
	p := fresh(t, 1)
	c := p.Clone()
	wantTake(t, c, e(0, 1))
	wantFull(t, c)
	wantState(t, p, nil, nil)
	wantTake(t, p, e(0, 1))
	wantFull(t, p)
}
