package ids_test

import (
	"slices"
	"sync"
	"testing"

	"hindcast/api"
	"hindcast/ids"
)

// room is a list within a greater one, and all of that.
func room(list ...int) (in, around []int) {
	around = slices.Repeat([]int{-77}, len(list)+8)
	copy(around[2:], list)
	return around[2 : 2+len(list)], around
}

// spoil writes into all of a list, and into the room behind it.
func spoil[T any](list []T, with T) {
	list = list[:cap(list)]
	for i := range list {
		list[i] = with
	}
}

// TestFromWritesIntoNothing: P3, what is handed to From, and what stands around it, stays as it is, whatever becomes of the pool.
func TestFromWritesIntoNothing(t *testing.T) {
	gens, gensRoom := room(3, 1, 5)
	free, freeRoom := room(2, 0)
	wasGens, wasFree := slices.Clone(gensRoom), slices.Clone(freeRoom)
	p := told(t, 6, gens, free)
	wantGive(t, p, e(1, 1), api.OK)
	for _, who := range []api.Entity{e(2, 6), e(0, 4), e(1, 2), e(3, 1), e(4, 1)} {
		wantTake(t, p, who)
	}
	wantGive(t, p, e(0, 4), api.OK)
	wantGive(t, p, e(3, 1), api.OK)
	if !slices.Equal(gensRoom, wasGens) || !slices.Equal(freeRoom, wasFree) {
		t.Errorf("P3: a pool writes into what From is given: %v, %v", gensRoom, freeRoom)
	}
}

// TestFromKeepsNothing: P3, whose lists they are may write over them.
func TestFromKeepsNothing(t *testing.T) {
	gens, free := []int{3, 1, 5}, []int{2, 0}
	p := told(t, 4, gens, free)
	spoil(gens, 99)
	spoil(free, 1)
	wantState(t, p, []int{3, 1, 5}, []int{2, 0})
	wantLive(t, p, e(1, 1))
	wantTake(t, p, e(2, 6))
	wantTake(t, p, e(0, 4))
	wantTake(t, p, e(3, 1))
}

// TestOneListTwice: P3, one list may be handed in as both.
func TestOneListTwice(t *testing.T) {
	list := []int{1, 2, 3}
	p := told(t, 4, append(list, 4), list)
	wantState(t, p, []int{1, 2, 3, 4}, []int{1, 2, 3})
	wantTake(t, p, e(1, 3))
	wantGive(t, p, e(0, 1), api.OK)
	wantState(t, p, []int{1, 3, 3, 4}, []int{2, 3, 0})
}

// TestStateIsNewMemory: P3, the lists of State are the caller's, and no two of them share anything.
func TestStateIsNewMemory(t *testing.T) {
	p := told(t, 5, []int{3, 1, 5, 2}, []int{2, 0})
	gens, free := p.State()
	others, otherFree := p.State()
	spoil(gens, 99)
	spoil(free, 99)
	if !slices.Equal(others, []int{3, 1, 5, 2}) || !slices.Equal(otherFree, []int{2, 0}) {
		t.Errorf("P3: two answers of State share memory: %v, %v", others, otherFree)
	}
	wantState(t, p, []int{3, 1, 5, 2}, []int{2, 0})
	wantTake(t, p, e(2, 6))
	wantGive(t, p, e(1, 1), api.OK)
	wantGive(t, p, e(3, 2), api.OK)
	wantTake(t, p, e(0, 4))
	if !slices.Equal(others, []int{3, 1, 5, 2}) || !slices.Equal(otherFree, []int{2, 0}) {
		t.Errorf("P3: what State answered has become %v, %v", others, otherFree)
	}
}

// TestSpareRoomOfState: P3, who appends to an answer writes into no pool.
func TestSpareRoomOfState(t *testing.T) {
	p := filled(t, 5)
	wantGive(t, p, e(3, 1), api.OK)
	wantGive(t, p, e(1, 1), api.OK)
	wantTake(t, p, e(3, 2))
	gens, free := p.State()
	_, _ = append(gens, 99), append(free, 99)
	wantGive(t, p, e(0, 1), api.OK)
	gens, free = append(gens, 98), append(free, 98)
	wantState(t, p, []int{1, 1, 1, 2, 1}, []int{1, 0})
	if gens[5] != 98 || free[1] != 98 {
		t.Errorf("P3: a pool writes into the room behind an answer: %v, %v", gens, free)
	}
}

func TestAllIsNewMemory(t *testing.T) {
	p := filled(t, 3)
	one, two := p.All(), p.All()
	spoil(one, e(99, 99))
	want := []api.Entity{e(0, 1), e(1, 1), e(2, 1)}
	if !slices.Equal(two, want) {
		t.Errorf("P3: two answers of All share memory: %v", two)
	}
	wantLive(t, p, want...)
	wantGive(t, p, e(1, 1), api.OK)
	wantTake(t, p, e(1, 2))
	if !slices.Equal(two, want) {
		t.Errorf("P3: what All answered has become %v", two)
	}
}

// TestClonesAreApart: I5 and P4, whatever room the lists of a pool had when it was cloned.
func TestClonesAreApart(t *testing.T) {
	for taken := range 10 {
		p := fresh(t, 12)
		for index := range taken {
			wantTake(t, p, e(index, 1))
		}
		c := p.Clone()
		for index := range taken {
			wantGive(t, p, e(index, 1), api.OK)
			wantGive(t, c, e(taken-1-index, 1), api.OK)
		}
		twice := c.Clone()
		for index := range taken {
			wantTake(t, p, e(index, 2))
			wantTake(t, twice, e(taken-1-index, 2))
			wantGive(t, twice, e(taken-1-index, 2), api.OK)
			wantTake(t, c, e(taken-1-index, 2))
		}
		wantTake(t, p, e(taken, 1))
		wantTake(t, c, e(taken, 1))
		wantGive(t, p, e(taken, 1), api.OK)
		if !c.Lives(e(taken, 1)) || twice.Lives(e(taken, 1)) || p.Lives(e(taken, 1)) {
			t.Errorf("I5: a clone of %d has to do with another one", taken)
		}
	}
}

// TestSideBySide: P4, pools on goroutines of their own answer as they do alone, made of the same lists or of one another.
func TestSideBySide(t *testing.T) {
	gens, free := []int{3, 1, 5}, []int{2, 0}
	whole := told(t, 4, gens, free)
	var group sync.WaitGroup
	for range 8 {
		group.Go(func() {
			for range 200 {
				made, _ := ids.From(4, gens, free)
				for _, p := range []*ids.Pool{made, whole.Clone()} {
					first, _ := p.Take()
					second, _ := p.Take()
					bad := p.Give(e(1, 1))
					third, _ := p.Take()
					if first != e(2, 6) || second != e(0, 4) || bad != api.OK || third != e(1, 2) {
						t.Errorf("P4: another answer beside other pools: %v, %v, %v, %v", first, second, bad, third)
						return
					}
				}
			}
		})
	}
	group.Wait()
	wantState(t, whole, gens, free)
}
