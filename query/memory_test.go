package query_test

import (
	"errors"
	"slices"
	"sync"
	"testing"

	"hindcast/api"
	"hindcast/query"
	"hindcast/world"
)

// room is a list within a greater one, and all of that.
func room[T any](junk T, list ...T) (in, around []T) {
	around = slices.Repeat([]T{junk}, len(list)+8)
	copy(around[2:], list)
	return around[2 : 2+len(list)], around
}

// spoil writes into all of a list, and into the room behind it.
func spoil[T any](list []T, junk T) {
	list = list[:cap(list)]
	for i := range list {
		list[i] = junk
	}
}

func spoilRow(row api.Row) {
	for _, part := range row.Parts {
		spoil(part.Values, -99)
	}
	spoil(row.Parts, p(-99, -99))
}

// stuff appends to all lists of a row, one item a list, as their owner may.
func stuff(row api.Row) {
	for _, part := range row.Parts {
		_ = append(part.Values, -99)
	}
	_ = append(row.Parts, p(-99, -99))
}

// given is what a query is made of, each list with other items around it.
type given struct {
	kinds, aroundKinds   []api.Kind
	fields, aroundFields [][]string
	filter               api.Filter
	around               api.Filter
}

// give hands out what is asked for as 'Pos, Vel, !Dead, Pos.x in 5..9', in no good order, with wrong items around it.
func give() given {
	g := given{}
	g.kinds, g.aroundKinds = room(api.Kind{Name: "?"}, three()...)
	for i := range g.kinds {
		fields, around := room("?", g.kinds[i].Fields...)
		g.kinds[i].Fields = fields
		g.fields, g.aroundFields = append(g.fields, fields), append(g.aroundFields, around)
	}
	g.filter.With, g.around.With = room(-7, 2, 1, 2)
	g.filter.Without, g.around.Without = room(-7, 3, 3)
	g.filter.Bounds, g.around.Bounds = room(bound(-7, -7, -7, -7), bound(2, 0, lowest, highest), bound(1, 0, 5, 20), bound(1, 0, 0, 9))
	return g
}

func sameKind(a, b api.Kind) bool { return a.Name == b.Name && slices.Equal(a.Fields, b.Fields) }

// wantUnchanged holds all that was handed in, and what stands around it, against how it was.
func (g given) wantUnchanged(t *testing.T) {
	t.Helper()
	was := give()
	if !slices.EqualFunc(g.aroundKinds, was.aroundKinds, sameKind) || !slices.EqualFunc(g.aroundFields, was.aroundFields, slices.Equal) {
		t.Errorf("P3: kinds are written into: %v, %v", g.aroundKinds, g.aroundFields)
	}
	if !slices.Equal(g.around.With, was.around.With) || !slices.Equal(g.around.Without, was.around.Without) || !slices.Equal(g.around.Bounds, was.around.Bounds) {
		t.Errorf("P3: a filter is written into: %v", g.around)
	}
}

// spoil writes over all of it.
func (g given) spoil() {
	for _, fields := range g.fields {
		spoil(fields, "spoilt")
	}
	spoil(g.kinds, api.Kind{Name: "Spoilt", Fields: []string{"spoilt"}})
	spoil(g.filter.With, 3)
	spoil(g.filter.Without, 1)
	spoil(g.filter.Bounds, bound(1, 1, 6, 6))
}

// TestHandedIn: P3 of Q1 and Q2, lists stay as they are, and their owner may write over them.
func TestHandedIn(t *testing.T) {
	w := fresh(t, three())
	spawn(t, w, p(1, 5, 1), p(2, 2))
	spawn(t, w, p(1, 4, 6), p(2, 6), p(3))
	for _, open := range []func(g given) (*query.Query, error){
		func(g given) (*query.Query, error) {
			q, bad := query.New(g.kinds, g.filter)
			if bad != api.OK {
				return nil, bad
			}
			return q, nil
		},
		func(g given) (*query.Query, error) { return query.Parse(g.kinds, "Vel, !Dead, Pos.x in 5..9") },
	} {
		g := give()
		q, err := open(g)
		if err != nil {
			t.Fatalf("Q1, Q2: lists with others around them: %v", err)
		}
		g.wantUnchanged(t)
		for range 2 {
			wantText(t, q, "Vel, !Dead, Pos.x in 5..9")
			wantRows(t, q, w, r(0, 1, p(1, 5, 1), p(2, 2)))
			wantFold(t, q, w, 1, 1, 1, 1, 1)
			wantGroup(t, q, w, 2, 0, [2]int64{2, 1})
			wantNoField(t, q, w, 3, 0, api.ErrField)
			g.spoil()
		}
	}
	g := give()
	query.New(g.kinds, api.Filter{With: g.filter.With, Without: g.filter.Without, Bounds: g.around.Bounds})
	query.New(g.aroundKinds, g.filter)
	query.Parse(g.kinds, "Pos, ?")
	query.Parse(g.aroundKinds, "Pos")
	g.wantUnchanged(t)
}

// TestRowsAreNewMemory: P3 of Q3, whoever goes through the rows may write into them: into no other row, no later turn, no world.
func TestRowsAreNewMemory(t *testing.T) {
	w := crowd(t)
	q := parsed(t, "Pos.x >= 0")
	want := pick(0, 1, 5, 6)
	kept := slices.Collect(q.All(w))
	var told []api.Row
	for row := range q.All(w) {
		told = append(told, row)
		stuff(row)
	}
	for _, row := range told {
		stuff(row)
	}
	if !slices.EqualFunc(told, want, sameRow) {
		t.Errorf("P3: rows share memory: %v, want %v", told, want)
	}
	all := q.All(w)
	seen := 0
	for row := range all {
		if !sameRow(row, want[seen]) {
			t.Errorf("P3: who writes into a row writes into the next one: %v, want %v", row, want[seen])
		}
		seen++
		for inner := range all {
			spoilRow(inner)
		}
		if !sameRow(row, want[seen-1]) {
			t.Errorf("P3: who writes into rows within writes into %v", row)
		}
		spoilRow(row)
	}
	for _, row := range told {
		spoilRow(row)
	}
	if !slices.EqualFunc(kept, want, sameRow) {
		t.Errorf("P3: who writes into rows writes into those of another turn: %v", kept)
	}
	wantRows(t, q, w, want...)
	if got := w.Rows(); !slices.EqualFunc(got, crowdRows(), sameRow) {
		t.Errorf("P3: who writes into rows writes into the world: %v", got)
	}
}

// TestGroupsAreNewMemory: P3 of Q4, a list of groups is the caller's.
func TestGroupsAreNewMemory(t *testing.T) {
	w := crowd(t)
	q := parsed(t, "Pos")
	want := [][2]int64{{0, 1}, {1, 2}, {5, 1}}
	one, _ := q.Group(w, 1, 0)
	two, _ := q.Group(w, 1, 0)
	_ = append(one, [2]int64{-99, -99})
	spoil(one, [2]int64{-99, -99})
	if !slices.Equal(two, want) {
		t.Errorf("P3: who writes into groups writes into other ones: %v", two)
	}
	wantGroup(t, q, w, 1, 0, want...)
	wantRows(t, q, w, pick(0, 1, 5, 6)...)
}

// TestFaultsAreNewMemory: P3 of Q2, a fault is the caller's.
func TestFaultsAreNewMemory(t *testing.T) {
	for _, kinds := range [][]api.Kind{three(), nil} {
		_, err := query.Parse(kinds, "Nix")
		_, other := query.Parse(kinds, "Nix")
		want := *other.(*api.Fault)
		var fault *api.Fault
		if !errors.As(err, &fault) {
			t.Fatalf("P5: no fault: %v", err)
		}
		*fault = api.Fault{At: -99, Err: -99}
		if *other.(*api.Fault) != want {
			t.Errorf("P3: who writes into a fault writes into %v", other)
		}
		wantFault(t, kinds, "Nix", 0, want.Err)
	}
}

// TestQueriesAreApart: P4, queries of the same lists, and worlds that one query asks, have nothing to do with one another.
func TestQueriesAreApart(t *testing.T) {
	kinds, f := three(), api.Filter{With: []int{2}}
	one, _ := query.New(kinds, f)
	two, _ := query.New(kinds, f)
	w, other := crowd(t), crowd(t)
	other.Despawn(e(0, 1))
	wantRows(t, one, w, pick(0, 2, 5, 6)...)
	wantRows(t, one, other, pick(2, 5, 6)...)
	wantRows(t, two, w, pick(0, 2, 5, 6)...)
	query.Parse(kinds, "Vel.x == 5, Pos, !Dead")
	query.Parse(kinds, "Vel.x == 5, ?")
	wantText(t, one, "Vel")
	wantText(t, two, "Vel")
	all, others := one.All(w), two.All(other)
	count := 0
	for range all {
		for range others {
			count++
		}
	}
	if count != 4*3 {
		t.Errorf("P4: the rows of two worlds within one another: %d, want 12", count)
	}
}

// TestSideBySide: P4, a query and a world that are only asked may be asked from all goroutines; texts are read on all of them at once.
func TestSideBySide(t *testing.T) {
	w := crowd(t)
	kinds := three()
	shared := parsed(t, "Pos.x <= 1")
	all := shared.All(w)
	var group sync.WaitGroup
	for range 8 {
		group.Go(func() {
			for range 100 {
				own, _ := query.Parse(kinds, "Pos.x < 2")
				made, _ := query.New(kinds, bounds(bound(1, 0, lowest, 1)))
				_, err := query.Parse(kinds, "Pos.x < 02")
				if err == nil || err.Error() != "hindcast: error 70 at 8" {
					t.Errorf("P4: another fault beside other calls: %v", err)
					return
				}
				for _, q := range []*query.Query{shared, own, made} {
					if !answers(q, w, slices.Collect(all)) {
						t.Errorf("P4: another answer beside other calls")
						return
					}
				}
			}
		})
	}
	group.Wait()
}

// answers tells whether a query is 'Pos.x <= 1', by all its calls.
func answers(q *query.Query, w *world.World, rows []api.Row) bool {
	sum, least, most, bad := q.Fold(w, 1, 0)
	groups, worse := q.Group(w, 1, 0)
	return q.String() == "Pos.x <= 1" && q.Count(w) == 3 && slices.EqualFunc(rows, pick(0, 5, 6), sameRow) &&
		sum == 2 && least == 0 && most == 1 && bad == api.OK && slices.Equal(groups, [][2]int64{{0, 1}, {1, 2}}) && worse == api.OK
}
