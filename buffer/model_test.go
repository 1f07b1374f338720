package buffer_test

import (
	"bytes"
	"fmt"
	"math/rand"
	"slices"
	"testing"

	"hindcast/api"
	"hindcast/buffer"
	"hindcast/world"
)

// model is a buffer as the chapter's words say it: all wishes, each at its sequence.
type model []wish

// first tells whether the wish of one sequence comes ahead of that of another one.
func (m model) first(a, b int) bool {
	if m[a].system != m[b].system {
		return m[a].system < m[b].system
	}
	if m[a].e.Index != m[b].e.Index {
		return m[a].e.Index < m[b].e.Index
	}
	return a < b
}

// all puts each command where as many stand ahead of it as come first.
func (m model) all() []api.Command {
	list := make([]api.Command, len(m))
	for i, x := range m {
		ahead := 0
		for k := range m {
			if m.first(k, i) {
				ahead++
			}
		}
		list[ahead] = x.c
	}
	return list
}

// land is a world as the tests of commands need it: who lives under each number, with what; how often each was given; which come next.
type land struct {
	lives map[int]map[int][]int64
	gens  []int
	free  []int
}

func landOf(rows []api.Row) *land {
	l := &land{lives: map[int]map[int][]int64{}}
	for _, row := range rows {
		l.do(spawn(row.Parts...))
	}
	return l
}

func (l *land) has(who api.Entity) map[int][]int64 {
	if parts := l.lives[who.Index]; parts != nil && l.gens[who.Index] == who.Gen {
		return parts
	}
	return nil
}

// fits tells whether a part may come to these.
func fits(parts map[int][]int64, part api.Part) bool {
	if part.Kind < 1 || part.Kind > 3 {
		return false
	}
	_, there := parts[part.Kind]
	return !there && len(part.Values) == []int{2, 1, 0}[part.Kind-1]
}

// spawn is nil, if it does not go.
func (l *land) spawn(parts []api.Part) *api.Entity {
	own := map[int][]int64{}
	for _, part := range parts {
		if !fits(own, part) {
			return nil
		}
		own[part.Kind] = slices.Clone(part.Values)
	}
	who := api.Entity{Index: len(l.gens), Gen: 1}
	switch {
	case len(l.free) > 0:
		who.Index, l.free = l.free[0], l.free[1:]
		l.gens[who.Index]++
		who.Gen = l.gens[who.Index]
	case len(l.gens) == 200:
		return nil
	default:
		l.gens = append(l.gens, 1)
	}
	l.lives[who.Index] = own
	return &who
}

// do does a command: who was made, and whether it went.
func (l *land) do(c api.Command) (*api.Entity, bool) {
	if c.Op == 1 {
		who := l.spawn(c.Parts)
		return who, who != nil
	}
	parts := l.has(c.E)
	if parts == nil {
		return nil, false
	}
	_, there := parts[c.Kind]
	switch {
	case c.Op == 2:
		delete(l.lives, c.E.Index)
		l.free = append(l.free, c.E.Index)
	case c.Op == 3 && fits(parts, p(c.Kind, c.Values...)):
		parts[c.Kind] = slices.Clone(c.Values)
	case c.Op == 4 && there:
		delete(parts, c.Kind)
	default:
		return nil, false
	}
	return nil, true
}

func (l *land) rows() []api.Row {
	var rows []api.Row
	for index, gen := range l.gens {
		parts := l.lives[index]
		if parts == nil {
			continue
		}
		row := r(index, gen)
		for kind := 1; kind <= 3; kind++ {
			if values, there := parts[kind]; there {
				row.Parts = append(row.Parts, p(kind, values...))
			}
		}
		rows = append(rows, row)
	}
	return rows
}

// apply does them one by one; what becomes of each is counted.
func (m model) apply(l *land, seen map[string]int) (spawned []api.Entity, refused int) {
	for i, c := range m.all() {
		if i >= 2000 {
			seen["too late"]++
			refused++
			continue
		}
		who, goes := l.do(c)
		if who != nil {
			spawned = append(spawned, *who)
		}
		if !goes {
			refused++
		}
		seen[fmt.Sprint(c.Op, goes)]++
	}
	return spawned, refused
}

// someEntity is one that may live, or not.
func someEntity(r *rand.Rand) api.Entity {
	if r.Intn(12) == 0 {
		return e(r.Intn(500)-250, r.Intn(5)-2)
	}
	return e(r.Intn(6), 1+r.Intn(2)*r.Intn(3))
}

// somePart is one that mostly may stand.
func somePart(r *rand.Rand) api.Part {
	part := p(1 + r.Intn(3))
	if r.Intn(15) == 0 {
		part.Kind = r.Intn(7) - 2
	}
	fields := 3 - part.Kind
	if r.Intn(15) == 0 {
		fields = r.Intn(6)
	}
	for range fields {
		part.Values = append(part.Values, r.Int63()-r.Int63())
	}
	return part
}

func someCommand(r *rand.Rand) api.Command {
	switch r.Intn(9) {
	case 0, 1:
		c := spawn()
		for range r.Intn(4) {
			c.Parts = append(c.Parts, somePart(r))
		}
		return c
	case 2:
		return despawn(someEntity(r))
	case 3, 4, 5:
		return add(someEntity(r), somePart(r))
	case 6, 7:
		return remove(someEntity(r), somePart(r).Kind)
	}
	c := add(someEntity(r), somePart(r))
	c.Op, c.Parts = r.Intn(12)-3, []api.Part{somePart(r), somePart(r)}
	return c
}

func someWishes(r *rand.Rand, n int) model {
	systems, entities := 1+r.Intn(5), 1+r.Intn(20)
	var m model
	for range n {
		x := wish{r.Intn(systems) - 1, e(r.Intn(entities)-1, r.Intn(9)), someCommand(r)}
		if r.Intn(30) == 0 {
			x.system, x.e.Index = int(r.Uint64()), int(r.Uint64())
		}
		m = append(m, x)
	}
	return m
}

func someRows(r *rand.Rand) []api.Row {
	var rows []api.Row
	for i := range r.Intn(6) {
		row := api.Row{E: e(i, 1)}
		for kind := 1; kind <= 3; kind++ {
			part := p(kind)
			for range 3 - kind {
				part.Values = append(part.Values, r.Int63n(9))
			}
			if r.Intn(2) == 0 {
				row.Parts = append(row.Parts, part)
			}
		}
		rows = append(rows, row)
	}
	return rows
}

// compare holds a buffer and a model of the same wishes against each other, on a world of these rows.
func compare(t *testing.T, m model, b *buffer.Buffer, w *world.World, l *land, seen map[string]int) {
	t.Helper()
	if got, want := b.All(), m.all(); !slices.EqualFunc(got, want, sameCommand) {
		t.Fatalf("B3: of the wishes %v\n%v\nwant %v", m, got, want)
	}
	gotMade, gotRefused := b.Apply(w)
	wantMade, wantRefused := m.apply(l, seen)
	if !slices.Equal(gotMade, wantMade) || gotRefused != wantRefused {
		t.Fatalf("B4: of the wishes %v\nmade %v, refused %d; want %v, %d", m, gotMade, gotRefused, wantMade, wantRefused)
	}
	if got, want := w.Rows(), l.rows(); !slices.EqualFunc(got, want, sameRow) {
		t.Fatalf("B4: of the wishes %v\nthe rows %v\nwant %v", m, got, want)
	}
}

// TestModel: B2 to B4, buffers of all sorts of wishes, applied again and again, are as the chapter's words say.
func TestModel(t *testing.T) {
	seen := map[string]int{}
	for seed := range 3000 {
		r := rand.New(rand.NewSource(int64(seed)))
		rows := someRows(r)
		m, w, l := model{}, made(t, rows...), landOf(rows)
		b := buffer.New()
		for range 1 + r.Intn(3) {
			for _, x := range someWishes(r, r.Intn(40)) {
				m = append(m, x)
				b.Put(x.system, x.e, x.c)
			}
			compare(t, m, b, w, l, seen)
		}
	}
	for _, sort := range []string{"1 true", "1 false", "2 true", "2 false", "3 true", "3 false", "4 true", "4 false", "-3 false", "0 false", "5 false", "8 false"} {
		if seen[sort] < 100 {
			t.Errorf("the test's own commands: %d of the sort %s", seen[sort], sort)
		}
	}
}

// TestModelOfMany: B4, the same, with more wishes than are done.
func TestModelOfMany(t *testing.T) {
	seen := map[string]int{}
	for seed := range 6 {
		r := rand.New(rand.NewSource(int64(seed)))
		rows := someRows(r)
		m := someWishes(r, 1990+4*seed)
		compare(t, m, put(t, m...), made(t, rows...), landOf(rows), seen)
	}
	if seen["too late"] != 2+6+10 {
		t.Errorf("the test's own wishes: %d come too late", seen["too late"])
	}
}

// mix puts the wishes in another order, but those of one system and Index, which keep theirs.
func mix(r *rand.Rand, m model) model {
	type turn struct{ system, index int }
	waiting := map[turn][]wish{}
	for _, x := range m {
		own := turn{x.system, x.e.Index}
		waiting[own] = append(waiting[own], x)
	}
	var mixed model
	for _, at := range r.Perm(len(m)) {
		own := turn{m[at].system, m[at].e.Index}
		mixed = append(mixed, waiting[own][0])
		waiting[own] = waiting[own][1:]
	}
	return mixed
}

// TestPutInAnyOrder: what follows, whatever order commands of different systems or Indexes are put in, All and Apply are the same.
func TestPutInAnyOrder(t *testing.T) {
	others := 0
	for seed := range 600 {
		r := rand.New(rand.NewSource(int64(seed)))
		rows, m := someRows(r), someWishes(r, 2+r.Intn(60))
		one := made(t, rows...)
		b := put(t, m...)
		who, refused := b.Apply(one)
		for range 4 {
			mixed := mix(r, m)
			other, two := put(t, mixed...), made(t, rows...)
			wantAll(t, other, b.All()...)
			wantApply(t, other, two, refused, who...)
			if !bytes.Equal(one.Snapshot(), two.Snapshot()) {
				t.Fatalf("B4: the wishes %v\nput as %v\nmake other worlds: %v and %v", m, mixed, one.Rows(), two.Rows())
			}
			if !slices.EqualFunc(m, mixed, func(a, b wish) bool { return a.system == b.system && a.e == b.e }) {
				others++
			}
		}
	}
	if others < 2000 {
		t.Errorf("the test's own orders: only %d are other ones", others)
	}
}

// TestAppliedTwice: what follows, two worlds that are one are made two that are one, though one of them was written and read again.
func TestAppliedTwice(t *testing.T) {
	for seed := range 300 {
		r := rand.New(rand.NewSource(int64(seed)))
		one := made(t, someRows(r)...)
		put(t, someWishes(r, 30)...).Apply(one)
		two, bad := world.Load(three(), one.Snapshot())
		if bad != api.OK {
			t.Fatalf("the test's own world: %v", bad)
		}
		three := one.Clone()
		b := put(t, someWishes(r, 30)...)
		who, refused := b.Apply(one)
		for _, w := range []*world.World{two, three} {
			wantApply(t, b, w, refused, who...)
			if !bytes.Equal(one.Snapshot(), w.Snapshot()) {
				t.Fatalf("B4: two worlds that were one: %v and %v", one.Rows(), w.Rows())
			}
		}
	}
}
