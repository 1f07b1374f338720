package ids_test

import (
	"math/rand"
	"slices"
	"testing"

	"hindcast/api"
	"hindcast/ids"
)

// model is a pool as the chapter's words say it.
type model struct {
	most  int
	gens  map[int]int // of each number that was ever given out
	lives map[int]bool
	row   []int
}

func newModel(most int) *model {
	return &model{most: most, gens: map[int]int{}, lives: map[int]bool{}}
}

func (m *model) take() (api.Entity, api.Errno) {
	index := 0
	if len(m.row) > 0 {
		index, m.row = m.row[0], slices.Clone(m.row[1:])
	} else {
		for m.gens[index] > 0 {
			index++
		}
		if index >= m.most {
			return api.Entity{}, api.ErrFull
		}
	}
	m.gens[index]++
	m.lives[index] = true
	return e(index, m.gens[index]), api.OK
}

func (m *model) isLive(e api.Entity) bool { return m.lives[e.Index] && m.gens[e.Index] == e.Gen }

func (m *model) give(e api.Entity) api.Errno {
	if !m.isLive(e) {
		return api.ErrStale
	}
	m.lives[e.Index] = false
	if e.Gen < api.MaxGen {
		m.row = append(slices.Clone(m.row), e.Index)
	}
	return api.OK
}

func (m *model) all() []api.Entity {
	var all []api.Entity
	for index := range m.most {
		if m.lives[index] {
			all = append(all, e(index, m.gens[index]))
		}
	}
	return all
}

func (m *model) told() []int {
	var gens []int
	for index := range len(m.gens) {
		gen := m.gens[index]
		if gen == api.MaxGen && !m.lives[index] {
			gen++
		}
		gens = append(gens, gen)
	}
	return gens
}

// same holds a pool against its model: all that can be asked without changing it.
func same(t *testing.T, p *ids.Pool, m *model) {
	t.Helper()
	gens, free := p.State()
	if !slices.Equal(gens, m.told()) || !slices.Equal(free, m.row) {
		t.Fatalf("I4: State: %v, %v, want %v, %v", gens, free, m.told(), m.row)
	}
	if all := p.All(); !slices.Equal(all, m.all()) {
		t.Fatalf("I3: All: %v, want %v", all, m.all())
	}
	for index := -1; index <= m.most; index++ {
		who, bad := p.At(index)
		if m.lives[index] != (bad == api.OK && who == e(index, m.gens[index])) || !m.lives[index] && (bad != api.ErrStale || who != api.Entity{}) {
			t.Fatalf("I3: At(%d): %v, %v", index, who, bad)
		}
		for gen := m.gens[index] - 1; gen <= m.gens[index]+1; gen++ {
			if p.Lives(e(index, gen)) != m.isLive(e(index, gen)) {
				t.Fatalf("I3: Lives(%d %d): %v", index, gen, p.Lives(e(index, gen)))
			}
		}
	}
}

// takeBoth and giveBoth make a call of a pool and of its model.
func takeBoth(t *testing.T, p *ids.Pool, m *model) {
	t.Helper()
	got, bad := p.Take()
	if want, wantBad := m.take(); got != want || bad != wantBad {
		t.Fatalf("I2: Take: %v, %v, want %v, %v", got, bad, want, wantBad)
	}
}

func giveBoth(t *testing.T, p *ids.Pool, m *model, e api.Entity) {
	t.Helper()
	bad := p.Give(e)
	if want := m.give(e); bad != want {
		t.Fatalf("I2: Give(%v): %v, want %v", e, bad, want)
	}
}

// again is a pool that must answer as p does: p itself, a clone of it, or one made of its State.
func again(t *testing.T, p *ids.Pool, most, how int) *ids.Pool {
	t.Helper()
	switch how {
	case 0:
		return p.Clone()
	case 1:
		gens, free := p.State()
		return told(t, most, gens, free)
	}
	return p
}

// anyPool is a pool and its model, of numbers some of which are near their last generation.
func anyPool(t *testing.T, r *rand.Rand) (*ids.Pool, *model) {
	t.Helper()
	m := newModel(1 + r.Intn(8))
	for index := range r.Intn(m.most + 1) {
		m.gens[index] = []int{1, 5, api.MaxGen - 2, api.MaxGen - 1, api.MaxGen}[r.Intn(5)]
		m.lives[index] = r.Intn(2) == 0
		if !m.lives[index] && m.gens[index] < api.MaxGen {
			m.row = append(m.row, index)
		}
	}
	r.Shuffle(len(m.row), func(i, j int) { m.row[i], m.row[j] = m.row[j], m.row[i] })
	return told(t, m.most, m.told(), m.row), m
}

// anyEntity is mostly one that lives.
func anyEntity(r *rand.Rand, m *model) api.Entity {
	if all := m.all(); len(all) > 0 && r.Intn(4) > 0 {
		return all[r.Intn(len(all))]
	}
	index := r.Intn(m.most+2) - 1
	return e(index, m.gens[index]+r.Intn(3)-1)
}

// TestAsTheWordsSay: I1 to I5, whatever is called one behind the other.
func TestAsTheWordsSay(t *testing.T) {
	r := rand.New(rand.NewSource(4))
	for range 500 {
		p, m := anyPool(t, r)
		same(t, p, m)
		for range 60 {
			if r.Intn(2) == 0 {
				takeBoth(t, p, m)
			} else {
				giveBoth(t, p, m, anyEntity(r, m))
			}
			p = again(t, p, m.most, r.Intn(8))
			same(t, p, m)
		}
	}
}

// TestAtMostOnce: a pair of number and generation is given out at most once, and as many live as were taken and not given back.
func TestAtMostOnce(t *testing.T) {
	r := rand.New(rand.NewSource(5))
	for _, most := range []int{1, 2, 17, api.MaxEntities} {
		p := fresh(t, most)
		seen, live := map[api.Entity]bool{}, map[api.Entity]bool{}
		for range 4000 {
			if who, bad := p.Take(); bad == api.OK {
				if seen[who] || who.Index < 0 || who.Index >= most {
					t.Fatalf("Take of %d: %v", most, who)
				}
				seen[who], live[who] = true, true
			} else if len(live) != most {
				t.Fatalf("I2: %v, where %d of %d live", bad, len(live), most)
			}
			if all := p.All(); r.Intn(3) == 0 {
				for _, who := range all[:r.Intn(len(all)+1)] {
					wantGive(t, p, who, api.OK)
					delete(live, who)
				}
			}
			if all := p.All(); len(all) != len(live) {
				t.Fatalf("%d live, but %d were taken and not given back", len(all), len(live))
			}
		}
	}
}

// TestAlikeForEver: From of State, and Clone, answer as the pool that they were made of, whatever is asked of all of them.
func TestAlikeForEver(t *testing.T) {
	r := rand.New(rand.NewSource(6))
	for range 200 {
		p, m := anyPool(t, r)
		clone, made := again(t, p, m.most, 0), again(t, p, m.most, 1)
		for range 60 {
			if r.Intn(2) == 0 {
				a, bad := p.Take()
				b, badClone := clone.Take()
				c, badMade := made.Take()
				if a != b || a != c || bad != badClone || bad != badMade {
					t.Fatalf("Take: %v, %v; of the clone %v, %v; of From of State %v, %v", a, bad, b, badClone, c, badMade)
				}
				m.take()
			} else {
				who := anyEntity(r, m)
				if bad := p.Give(who); bad != clone.Give(who) || bad != made.Give(who) {
					t.Fatalf("Give(%v): %v, but not of the clone, or not of From of State", who, bad)
				}
				m.give(who)
			}
			same(t, p, m)
			same(t, clone, m)
			same(t, made, m)
		}
	}
}

// FuzzCalls: P1, every call ends and none panics, and all do as the words say; two bytes are a call.
func FuzzCalls(f *testing.F) {
	f.Add(2, []byte{0, 0, 0, 0, 0, 0, 1, 0, 1, 0, 0, 0, 1, 1, 1, 0, 0, 0})
	f.Add(200, []byte{0, 0, 2, 0, 0, 0, 3, 0, 1, 0, 0, 0})
	f.Fuzz(func(t *testing.T, most int, calls []byte) {
		p, bad := ids.New(most)
		if may := most >= 1 && most <= api.MaxEntities; may != (bad == api.OK) || may != (p != nil) {
			t.Fatalf("I1: New(%d): %v", most, bad)
		}
		if p == nil {
			return
		}
		m := newModel(most)
		for ; len(calls) >= 2; calls = calls[2:] {
			switch calls[0] % 4 {
			case 0:
				takeBoth(t, p, m)
			case 1:
				index := int(int8(calls[1]))
				giveBoth(t, p, m, e(index, m.gens[index]))
			default:
				p = again(t, p, most, int(calls[0]%4)-2)
			}
			same(t, p, m)
		}
	})
}

// numbers are those that bytes tell, some of them near the bounds.
func numbers(b []byte) []int {
	list := make([]int, len(b))
	for i, n := range b {
		list[i] = int(n) - 2
		if n >= 0xf0 {
			list[i] = api.MaxGen + int(n) - 0xf8
		}
	}
	return list
}

// FuzzFrom: P1 and I4, whatever is handed in, From ends, and what it takes is just what State tells then.
func FuzzFrom(f *testing.F) {
	f.Add(2, []byte{5, 3}, []byte{2})
	f.Add(4, []byte{0xf7, 0xf8, 0xf9, 7}, []byte{5, 2})
	f.Fuzz(func(t *testing.T, most int, gensTold, freeTold []byte) {
		gens, free := numbers(gensTold), numbers(freeTold)
		p, bad := ids.From(most, gens, free)
		if may := mayBe(most, gens, free); may != (bad == api.OK) || may != (p != nil) || !may && bad != api.ErrArg {
			t.Fatalf("I4: From(%d, %v, %v): %v", most, gens, free, bad)
		}
		if p != nil {
			wantState(t, p, gens, free)
		}
	})
}

// mayBe tells whether From takes it, by the chapter's words.
func mayBe(most int, gens, free []int) bool {
	if most < 1 || most > api.MaxEntities || len(gens) > most {
		return false
	}
	if slices.ContainsFunc(gens, func(gen int) bool { return gen < 1 || gen > api.MaxGen+1 }) {
		return false
	}
	for i, index := range free {
		if index < 0 || index >= len(gens) || gens[index] > api.MaxGen-1 || slices.Contains(free[:i], index) {
			return false
		}
	}
	return true
}
