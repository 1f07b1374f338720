package query_test

import (
	"bytes"
	"iter"
	"math"
	"slices"
	"strconv"
	"strings"
	"testing"

	"hindcast/api"
	"hindcast/query"
	"hindcast/world"
)

const (
	lowest  = math.MinInt64
	highest = math.MaxInt64
)

func e(index, gen int) api.Entity { return api.Entity{Index: index, Gen: gen} }

func p(kind int, values ...int64) api.Part { return api.Part{Kind: kind, Values: values} }

func r(index, gen int, parts ...api.Part) api.Row { return api.Row{E: e(index, gen), Parts: parts} }

func bound(kind, field int, least, most int64) api.Bound {
	return api.Bound{Kind: kind, Field: field, Least: least, Most: most}
}

func bounds(list ...api.Bound) api.Filter { return api.Filter{Bounds: list} }

// three are the kinds of the chapter's examples: 1 is Pos, 2 is Vel, 3 is Dead.
func three() []api.Kind {
	return []api.Kind{{Name: "Pos", Fields: []string{"x", "y"}}, {Name: "Vel", Fields: []string{"x"}}, {Name: "Dead"}}
}

// most are as many kinds as may be, each with as many fields as may be.
func most() []api.Kind {
	var kinds []api.Kind
	for i := range api.MaxKinds {
		kinds = append(kinds, api.Kind{Name: "K" + strings.Repeat("k", i), Fields: []string{"a", "b", "c", "d"}})
	}
	return kinds
}

// asked is a query of the chapter's kinds.
func asked(t *testing.T, f api.Filter) *query.Query {
	t.Helper()
	q, bad := query.New(three(), f)
	if bad != api.OK || q == nil {
		t.Fatalf("Q1: New(%v): %v", f, bad)
	}
	return q
}

// parsed is a query of the chapter's kinds.
func parsed(t *testing.T, s string) *query.Query {
	t.Helper()
	q, err := query.Parse(three(), s)
	if err != nil || q == nil {
		t.Fatalf("Q2: Parse(%q): %v", s, err)
	}
	return q
}

func fresh(t *testing.T, kinds []api.Kind) *world.World {
	t.Helper()
	w, bad := world.New(kinds)
	if bad != api.OK {
		t.Fatalf("W1: New(%v): %v", kinds, bad)
	}
	return w
}

func spawn(t *testing.T, w *world.World, parts ...api.Part) {
	t.Helper()
	if _, bad := w.Spawn(parts); bad != api.OK {
		t.Fatalf("W2: Spawn(%v): %v", parts, bad)
	}
}

// crowdRows are those of crowd: number 2 lives for the second time, number 4 no more.
func crowdRows() []api.Row {
	return []api.Row{
		r(0, 1, p(1, 1, 10), p(2, 3)),
		r(1, 1, p(1, 5, -2)),
		r(2, 2, p(2, 3), p(3)),
		r(3, 1),
		r(5, 1, p(1, 1, highest), p(2, lowest)),
		r(6, 1, p(1, 0, 0), p(2, 0), p(3)),
	}
}

// crowd is a world of the chapter's kinds.
func crowd(t *testing.T) *world.World {
	t.Helper()
	w := fresh(t, three())
	rows := crowdRows()
	spawn(t, w, rows[0].Parts...)
	spawn(t, w, rows[1].Parts...)
	spawn(t, w, p(1, 7, 7))
	spawn(t, w)
	spawn(t, w, p(2, 9))
	spawn(t, w, rows[4].Parts...)
	spawn(t, w, rows[5].Parts...)
	w.Despawn(e(2, 1))
	w.Despawn(e(4, 1))
	spawn(t, w, rows[2].Parts...)
	if got := w.Rows(); !slices.EqualFunc(got, rows, sameRow) {
		t.Fatalf("W5: Rows: %v, want %v", got, rows)
	}
	return w
}

func samePart(a, b api.Part) bool { return a.Kind == b.Kind && slices.Equal(a.Values, b.Values) }

func sameRow(a, b api.Row) bool { return a.E == b.E && slices.EqualFunc(a.Parts, b.Parts, samePart) }

// pick are those of crowd with these numbers.
func pick(numbers ...int) []api.Row {
	return slices.DeleteFunc(crowdRows(), func(row api.Row) bool { return !slices.Contains(numbers, row.E.Index) })
}

// wantRows holds what a query has of a world against these rows, which it must tell twice, and count.
func wantRows(t *testing.T, q *query.Query, w *world.World, want ...api.Row) {
	t.Helper()
	for range 2 {
		if got := slices.Collect(q.All(w)); !slices.EqualFunc(got, want, sameRow) {
			t.Errorf("Q3: All of %q: %v, want %v", q, got, want)
		}
	}
	if got := q.Count(w); got != len(want) {
		t.Errorf("Q3: Count of %q: %d, want %d", q, got, len(want))
	}
}

func wantText(t *testing.T, q *query.Query, want string) {
	t.Helper()
	if got := q.String(); got != want {
		t.Errorf("Q2: String: %q, want %q", got, want)
	}
}

func wantFold(t *testing.T, q *query.Query, w *world.World, kind, field int, sum, least, most int64) {
	t.Helper()
	if a, b, c, bad := q.Fold(w, kind, field); a != sum || b != least || c != most || bad != api.OK {
		t.Errorf("Q4: Fold(%d, %d) of %q: %d, %d, %d, %v, want %d, %d, %d", kind, field, q, a, b, c, bad, sum, least, most)
	}
}

func wantGroup(t *testing.T, q *query.Query, w *world.World, kind, field int, want ...[2]int64) {
	t.Helper()
	if got, bad := q.Group(w, kind, field); !slices.Equal(got, want) || bad != api.OK {
		t.Errorf("Q4: Group(%d, %d) of %q: %v, %v, want %v", kind, field, q, got, bad, want)
	}
}

// TestExamples: those of the chapter.
func TestExamples(t *testing.T) {
	f := api.Filter{With: []int{2, 1, 1}, Without: []int{3}, Bounds: []api.Bound{bound(1, 0, 0, 9), bound(1, 0, 5, 20)}}
	wantText(t, asked(t, f), "Vel, !Dead, Pos.x in 5..9")
	wantText(t, parsed(t, "Pos.y > 3, Pos"), "Pos.y >= 4")
	wantNoQuery(t, three(), "Pos.z == 1", 4)
	wantNoQuery(t, three(), "Pos,", 4)
	wantNoQuery(t, three(), "Pos.x == 01", 9)
	wantNoQuery(t, three(), "Pos Vel", 4)
	wantText(t, parsed(t, ""), "")
	wantRows(t, parsed(t, ""), crowd(t), crowdRows()...)
}

// badKinds may not be, as world says.
func badKinds() [][]api.Kind {
	long := strings.Repeat("n", api.MaxName+1)
	return [][]api.Kind{
		nil, {}, {{}}, {{Name: "1"}}, {{Name: "_a"}}, {{Name: "a b"}}, {{Name: long}},
		{{Name: "a"}, {Name: "b"}, {Name: "a"}},
		{{Name: "a", Fields: []string{""}}}, {{Name: "a", Fields: []string{"x", "x"}}}, {{Name: "a", Fields: []string{long}}},
		{{Name: "a", Fields: []string{"a", "b", "c", "d", "e"}}},
		append(most(), api.Kind{Name: "one"}),
	}
}

// TestKinds: Q1 and Q2, ErrKinds ahead of all else, of just those kinds that world.New refuses.
func TestKinds(t *testing.T) {
	for _, kinds := range badKinds() {
		for _, f := range []api.Filter{{}, {With: []int{1}}, {With: []int{-1}, Bounds: []api.Bound{bound(1, 9, 0, 0)}}} {
			if q, bad := query.New(kinds, f); q != nil || bad != api.ErrKinds {
				t.Errorf("Q1: New(%v, %v): %v, %v, want ErrKinds", kinds, f, q, bad)
			}
		}
		for _, s := range []string{"", "a", "?", "a, ?", "    "} {
			wantFault(t, kinds, s, 0, api.ErrKinds)
		}
	}
	for _, kinds := range [][]api.Kind{{{Name: "a"}}, three(), most(), {{Name: strings.Repeat("n", api.MaxName)}}, {{Name: "in", Fields: []string{"in", "x_9"}}}} {
		q, bad := query.New(kinds, api.Filter{With: []int{len(kinds)}})
		if bad != api.OK {
			t.Fatalf("Q1: New(%v): %v", kinds, bad)
		}
		wantText(t, q, kinds[len(kinds)-1].Name)
	}
}

// noKinds are numbers next to those of the chapter's kinds, and far from them.
func noKinds() []int {
	return []int{0, -1, -2, -64, math.MinInt, math.MinInt32, 4, 5, 13, 31, 32, 33, 62, 63, 64, 65, 66, 129, math.MaxInt32, math.MaxInt}
}

// noFields are places that are none of a kind with this many fields.
func noFields(count int) []int {
	return []int{-1, -2, math.MinInt, math.MinInt32, count, count + 1, 4, 5, 64, math.MaxInt32, math.MaxInt}
}

func wantNoNew(t *testing.T, f api.Filter, want api.Errno) {
	t.Helper()
	if q, bad := query.New(three(), f); q != nil || bad != want {
		t.Errorf("Q1: New(%v): %v, %v, want %v", f, q, bad, want)
	}
}

// TestNewRefuses: Q1, a kind or a field that is none, wherever it stands.
func TestNewRefuses(t *testing.T) {
	for _, kind := range noKinds() {
		wantNoNew(t, api.Filter{With: []int{kind}}, api.ErrKind)
		wantNoNew(t, api.Filter{With: []int{1, 2, 3, kind, 1}}, api.ErrKind)
		wantNoNew(t, api.Filter{Without: []int{kind}}, api.ErrKind)
		wantNoNew(t, api.Filter{With: []int{1}, Without: []int{3, 2, 1, kind}}, api.ErrKind)
		wantNoNew(t, bounds(bound(kind, 0, 0, 0)), api.ErrKind)
		wantNoNew(t, bounds(bound(1, 0, 0, 0), bound(kind, 0, lowest, highest)), api.ErrKind)
	}
	for i, kind := range three() {
		for _, field := range noFields(len(kind.Fields)) {
			wantNoNew(t, bounds(bound(i+1, field, 0, 0)), api.ErrField)
			wantNoNew(t, bounds(bound(1, 1, 0, 0), bound(i+1, field, lowest, highest), bound(2, 0, 0, 0)), api.ErrField)
		}
	}
}

// TestFirstError: P2, a kind that is none comes ahead of a field that is none, wherever each stands.
func TestFirstError(t *testing.T) {
	none := bound(1, 2, 0, 0)
	wantNoNew(t, api.Filter{With: []int{4}, Bounds: []api.Bound{none}}, api.ErrKind)
	wantNoNew(t, api.Filter{Without: []int{4}, Bounds: []api.Bound{none}}, api.ErrKind)
	wantNoNew(t, bounds(none, bound(4, 0, 0, 0)), api.ErrKind)
	wantNoNew(t, bounds(bound(4, 0, 0, 0), none), api.ErrKind)
	wantNoNew(t, bounds(none, bound(2, 0, 0, 0), bound(0, -1, 0, 0)), api.ErrKind)
	wantNoNew(t, bounds(bound(4, -1, 0, 0)), api.ErrKind)
	wantNoNew(t, bounds(none, bound(2, 0, 0, 0)), api.ErrField)
}

// TestOneWay: 'Words', filters with one one way are told as one, and mean the same.
func TestOneWay(t *testing.T) {
	w := crowd(t)
	for _, c := range []struct {
		f    api.Filter
		want string
		who  []int
	}{
		{api.Filter{}, "", []int{0, 1, 2, 3, 5, 6}},
		{api.Filter{With: []int{}, Without: []int{}, Bounds: []api.Bound{}}, "", []int{0, 1, 2, 3, 5, 6}},
		{api.Filter{With: []int{1}}, "Pos", []int{0, 1, 5, 6}},
		{api.Filter{With: []int{3, 1, 2, 3, 1, 1}}, "Pos, Vel, Dead", []int{6}},
		{api.Filter{Without: []int{3, 2, 3, 2}}, "!Vel, !Dead", []int{1, 3}},
		{api.Filter{Without: []int{1, 2, 3}}, "!Pos, !Vel, !Dead", []int{3}},
		{api.Filter{With: []int{2}, Without: []int{3}}, "Vel, !Dead", []int{0, 5}},
		{api.Filter{With: []int{2}, Without: []int{2}}, "Vel, !Vel", nil},
		{api.Filter{With: []int{3, 2}, Without: []int{2, 1}}, "Vel, Dead, !Pos, !Vel", nil},
		{bounds(bound(1, 0, 1, 4)), "Pos.x in 1..4", []int{0, 5}},
		{bounds(bound(1, 0, 1, 1)), "Pos.x == 1", []int{0, 5}},
		{bounds(bound(1, 0, 1, 5)), "Pos.x in 1..5", []int{0, 1, 5}},
		{bounds(bound(1, 0, 0, 0)), "Pos.x == 0", []int{6}},
		{bounds(bound(1, 0, lowest, 1)), "Pos.x <= 1", []int{0, 5, 6}},
		{bounds(bound(1, 0, 2, highest)), "Pos.x >= 2", []int{1}},
		{bounds(bound(1, 0, lowest, highest)), "Pos", []int{0, 1, 5, 6}},
		{bounds(bound(2, 0, lowest, highest), bound(1, 1, lowest, highest)), "Pos, Vel", []int{0, 5, 6}},
		{bounds(bound(2, 0, lowest, lowest)), "Vel.x == -9223372036854775808", []int{5}},
		{bounds(bound(1, 1, highest, highest)), "Pos.y == 9223372036854775807", []int{5}},
		{bounds(bound(2, 0, lowest+1, highest)), "Vel.x >= -9223372036854775807", []int{0, 2, 6}},
		{bounds(bound(1, 1, lowest, highest-1)), "Pos.y <= 9223372036854775806", []int{0, 1, 6}},
		{bounds(bound(1, 1, lowest+1, highest-1)), "Pos.y in -9223372036854775807..9223372036854775806", []int{0, 1, 6}},
		{bounds(bound(1, 0, 5, 20), bound(1, 0, 0, 9)), "Pos.x in 5..9", []int{1}},
		{bounds(bound(1, 0, 0, 9), bound(1, 0, lowest, highest), bound(1, 0, -3, 5), bound(1, 0, 1, 7)), "Pos.x in 1..5", []int{0, 1, 5}},
		{bounds(bound(1, 0, lowest, 5), bound(1, 0, 5, highest)), "Pos.x == 5", []int{1}},
		{bounds(bound(1, 0, 0, 4), bound(1, 0, 5, 9)), "Pos.x in 5..4", nil},
		{bounds(bound(1, 0, 9, 2)), "Pos.x in 9..2", nil},
		{bounds(bound(1, 0, 1, 0)), "Pos.x in 1..0", nil},
		{bounds(bound(1, 0, highest, lowest)), "Pos.x in 9223372036854775807..-9223372036854775808", nil},
		{bounds(bound(1, 0, highest, 5)), "Pos.x in 9223372036854775807..5", nil},
		{bounds(bound(1, 0, 5, lowest)), "Pos.x in 5..-9223372036854775808", nil},
		{bounds(bound(2, 0, 0, 9), bound(1, 1, 0, 99), bound(1, 0, 1, 9)), "Pos.x in 1..9, Pos.y in 0..99, Vel.x in 0..9", []int{0}},
		{api.Filter{With: []int{3, 2}, Without: []int{1}, Bounds: []api.Bound{bound(2, 0, 3, 3)}}, "Dead, !Pos, Vel.x == 3", []int{2}},
		{api.Filter{Without: []int{2}, Bounds: []api.Bound{bound(2, 0, 3, 3)}}, "!Vel, Vel.x == 3", nil},
		{api.Filter{With: []int{1}, Without: []int{3}, Bounds: []api.Bound{bound(1, 0, lowest, highest), bound(1, 1, -2, 10)}}, "!Dead, Pos.y in -2..10", []int{0, 1}},
	} {
		q := asked(t, c.f)
		wantText(t, q, c.want)
		wantRows(t, q, w, pick(c.who...)...)
		again := parsed(t, c.want)
		wantText(t, again, c.want)
		wantRows(t, again, w, pick(c.who...)...)
	}
}

// TestManyKinds: Q1 to Q3, as many kinds and fields as may be, each of which is asked for.
func TestManyKinds(t *testing.T) {
	kinds := most()
	w := fresh(t, kinds)
	f := api.Filter{}
	var bounds []string
	var parts []api.Part
	for i, kind := range kinds {
		part := p(i + 1)
		for k, field := range kind.Fields {
			f.Bounds = append(f.Bounds, bound(i+1, k, lowest, int64(10*i+k)))
			bounds = append(bounds, kind.Name+"."+field+" <= "+strconv.Itoa(10*i+k))
			part.Values = append(part.Values, int64(10*i+k))
		}
		parts = append(parts, part)
	}
	slices.Reverse(f.Bounds)
	q, _ := query.New(kinds, f)
	wantText(t, q, strings.Join(bounds, ", "))
	spawn(t, w, parts...)
	for i := range parts {
		for k := range parts[i].Values {
			parts[i].Values[k]++
			spawn(t, w, parts...)
			parts[i].Values[k]--
		}
		spawn(t, w, slices.Delete(slices.Clone(parts), i, i+1)...)
	}
	wantRows(t, q, w, r(0, 1, parts...))
}

// otherKinds are nearly the chapter's.
func otherKinds() [][]api.Kind {
	pos, vel, dead := three()[0], three()[1], three()[2]
	return [][]api.Kind{
		{pos}, {pos, vel}, {pos, dead, vel}, {vel, pos, dead}, {pos, vel, dead, {Name: "More"}},
		{{Name: "pos", Fields: pos.Fields}, vel, dead},
		{pos, vel, {Name: "Dea"}},
		{{Name: "Pos", Fields: []string{"y", "x"}}, vel, dead},
		{{Name: "Pos", Fields: []string{"x"}}, vel, dead},
		{{Name: "Pos", Fields: []string{"x", "y", "z"}}, vel, dead},
		{{Name: "Pos", Fields: []string{"x", "Y"}}, vel, dead},
		{pos, vel, {Name: "Dead", Fields: []string{"x"}}},
	}
}

// TestNoWorld: Q3 and Q4, of a world of other kinds, or of none, nobody is meant; what is wrong is told all the same.
func TestNoWorld(t *testing.T) {
	worlds := []*world.World{nil}
	for _, kinds := range otherKinds() {
		w := fresh(t, kinds)
		spawn(t, w)
		spawn(t, w, api.Part{Kind: 1, Values: make([]int64, len(kinds[0].Fields))})
		worlds = append(worlds, w)
	}
	for _, w := range worlds {
		for _, s := range []string{"", "Pos", "!Dead", "Pos.x >= 0", "Pos, !Pos"} {
			q := parsed(t, s)
			wantRows(t, q, w)
			wantFold(t, q, w, 1, 0, 0, 0, 0)
			wantGroup(t, q, w, 1, 0)
			wantNoField(t, q, w, 4, 0, api.ErrKind)
			wantNoField(t, q, w, 1, 2, api.ErrField)
		}
	}
	// A list of no fields is the same, whether it is nil or empty.
	kinds := three()
	kinds[2].Fields = []string{}
	w := fresh(t, kinds)
	spawn(t, w, p(3))
	wantRows(t, parsed(t, "Dead"), w, r(0, 1, p(3)))
}

// TestEmptyWorld: Q3 and Q4, nobody lives, so nobody is meant.
func TestEmptyWorld(t *testing.T) {
	w := fresh(t, three())
	for _, s := range []string{"", "Pos", "!Pos", "Pos.x <= 5"} {
		q := parsed(t, s)
		wantRows(t, q, w)
		wantFold(t, q, w, 1, 1, 0, 0, 0)
		wantGroup(t, q, w, 1, 1)
	}
}

// TestFullWorld: Q3 and Q4, as many entities as may be.
func TestFullWorld(t *testing.T) {
	w := fresh(t, three())
	var even []api.Row
	var groups [][2]int64
	for i := range api.MaxEntities {
		spawn(t, w, p(1, int64(i%2), int64(i/4)))
		if i%2 == 0 {
			even = append(even, r(i, 1, p(1, 0, int64(i/4))))
		}
		if i%4 == 0 {
			groups = append(groups, [2]int64{int64(i / 4), 2})
		}
	}
	q := parsed(t, "Pos.x < 1")
	wantRows(t, q, w, even...)
	wantFold(t, q, w, 1, 1, 2450, 0, 49)
	wantGroup(t, q, w, 1, 1, groups...)
	wantGroup(t, q, w, 1, 0, [2]int64{0, api.MaxEntities / 2})
}

// TestLeft: Q3, All may be left, and is gone through anew then.
func TestLeft(t *testing.T) {
	w := crowd(t)
	all := parsed(t, "Pos").All(w)
	want := pick(0, 1, 5, 6)
	for most := range len(want) + 2 {
		var got []api.Row
		asked := 0
		all(func(row api.Row) bool {
			asked++
			if len(got) == most {
				return false
			}
			got = append(got, row)
			return true
		})
		if !slices.EqualFunc(got, want[:min(most, len(want))], sameRow) || asked != min(most+1, len(want)) {
			t.Errorf("Q3: All, left behind %d: %v, asked %d times", most, got, asked)
		}
	}
	if got := slices.Collect(all); !slices.EqualFunc(got, want, sameRow) {
		t.Errorf("Q3: All behind having been left: %v, want %v", got, want)
	}
}

// TestAnew: Q3, All tells the rows as they are when one begins, not as they were when it was asked for, nor as they come to be meanwhile.
func TestAnew(t *testing.T) {
	w := crowd(t)
	q := parsed(t, "Pos.x in 0..4")
	all := q.All(w)
	w.Set(e(1, 1), p(1, 4, 4))
	w.Remove(e(5, 1), 1)
	want := []api.Row{pick(0)[0], r(1, 1, p(1, 4, 4)), pick(6)[0]}
	var got []api.Row
	for row := range all {
		if len(got) == 0 {
			w.Despawn(e(6, 1))
			w.Set(e(1, 1), p(1, 9, 9))
			w.Set(e(0, 1), p(1, 2, 2))
			spawn(t, w, p(1, 0, 0))
		}
		got = append(got, row)
	}
	if !slices.EqualFunc(got, want, sameRow) {
		t.Errorf("Q3: All, while the world changes: %v, want %v", got, want)
	}
	want = []api.Row{r(0, 1, p(1, 2, 2), p(2, 3)), r(4, 2, p(1, 0, 0))}
	if got := slices.Collect(all); !slices.EqualFunc(got, want, sameRow) {
		t.Errorf("Q3: All, gone through again behind changes: %v, want %v", got, want)
	}
	wantRows(t, q, w, want...)
}

// TestWithin: Q3, All may be gone through within itself, and is told anew there.
func TestWithin(t *testing.T) {
	w := crowd(t)
	all := parsed(t, "Vel").All(w)
	outer, inner, third := 0, 0, 0
	for a := range all {
		outer++
		for b := range all {
			inner++
			for range all {
				third++
				break
			}
			if outer == 2 && b.E == e(6, 1) {
				w.Despawn(e(6, 1))
			}
		}
		if a.E == e(5, 1) {
			break
		}
	}
	if outer != 3 || inner != 4+4+3 || third != inner {
		t.Errorf("Q3: All within itself: %d, %d, %d, want 3, 11, 11", outer, inner, third)
	}
}

// TestPulled: Q3, one begins to go through them when the first one is asked for.
func TestPulled(t *testing.T) {
	w := crowd(t)
	next, stop := iter.Pull(parsed(t, "Vel, !Pos").All(w))
	defer stop()
	spawn(t, w, p(2, 8))
	first, found := next()
	w.Despawn(e(4, 2))
	second, more := next()
	_, beyond := next()
	if !found || !more || beyond || !sameRow(first, pick(2)[0]) || !sameRow(second, r(4, 2, p(2, 8))) {
		t.Errorf("Q3: All, one by one: %v, %v; %v, %v; %v", first, found, second, more, beyond)
	}
}

// TestFold: Q4, sums that wrap, the least and the greatest, of those that are meant and have the kind.
func TestFold(t *testing.T) {
	w := crowd(t)
	wantFold(t, parsed(t, ""), w, 1, 0, 7, 0, 5)
	wantFold(t, parsed(t, ""), w, 1, 1, lowest+7, -2, highest)
	wantFold(t, parsed(t, ""), w, 2, 0, lowest+6, lowest, 3)
	wantFold(t, parsed(t, "!Dead"), w, 2, 0, lowest+3, lowest, 3)
	wantFold(t, parsed(t, "Dead"), w, 1, 1, 0, 0, 0)
	wantFold(t, parsed(t, "Pos.y < 0"), w, 1, 1, -2, -2, -2)
	wantFold(t, parsed(t, "Vel.x == 3"), w, 1, 1, 10, 10, 10)
	wantFold(t, parsed(t, "Pos, !Vel"), w, 2, 0, 0, 0, 0)
	wantFold(t, parsed(t, "Pos.x in 2..1"), w, 1, 0, 0, 0, 0)
	wantFold(t, parsed(t, "Pos, !Pos"), w, 1, 0, 0, 0, 0)
	few := fresh(t, three())
	spawn(t, few, p(2, lowest))
	wantFold(t, parsed(t, ""), few, 2, 0, lowest, lowest, lowest)
	spawn(t, few, p(2, lowest))
	wantFold(t, parsed(t, ""), few, 2, 0, 0, lowest, lowest)
	spawn(t, few, p(2, -1))
	wantFold(t, parsed(t, ""), few, 2, 0, -1, lowest, -1)
	wantFold(t, parsed(t, "Vel.x > -9"), few, 2, 0, -1, -1, -1)
	spawn(t, few, p(2, highest))
	wantFold(t, parsed(t, "Vel.x > -9"), few, 2, 0, highest-1, -1, highest)
	spawn(t, few, p(2, highest))
	wantFold(t, parsed(t, "Vel.x > 0"), few, 2, 0, -2, highest, highest)
}

// TestGroup: Q4, each value and how many have it, by rising values.
func TestGroup(t *testing.T) {
	w := crowd(t)
	wantGroup(t, parsed(t, ""), w, 1, 0, [2]int64{0, 1}, [2]int64{1, 2}, [2]int64{5, 1})
	wantGroup(t, parsed(t, ""), w, 1, 1, [2]int64{-2, 1}, [2]int64{0, 1}, [2]int64{10, 1}, [2]int64{highest, 1})
	wantGroup(t, parsed(t, ""), w, 2, 0, [2]int64{lowest, 1}, [2]int64{0, 1}, [2]int64{3, 2})
	wantGroup(t, parsed(t, "!Pos"), w, 2, 0, [2]int64{3, 1})
	wantGroup(t, parsed(t, "Pos, !Vel"), w, 2, 0)
	wantGroup(t, parsed(t, "Pos.x in 2..1"), w, 1, 0)
	wantGroup(t, parsed(t, "Pos, !Pos"), w, 1, 0)
}

// wantNoField asks Fold and Group for a field that is none: P2, there is nothing beside the error.
func wantNoField(t *testing.T, q *query.Query, w *world.World, kind, field int, want api.Errno) {
	t.Helper()
	if a, b, c, bad := q.Fold(w, kind, field); a != 0 || b != 0 || c != 0 || bad != want {
		t.Errorf("Q4: Fold(%d, %d): %d, %d, %d, %v, want %v", kind, field, a, b, c, bad, want)
	}
	if got, bad := q.Group(w, kind, field); got != nil || bad != want {
		t.Errorf("Q4: Group(%d, %d): %v, %v, want %v", kind, field, got, bad, want)
	}
}

// TestNoField: Q4, a kind or a field that is none; that of the kind comes first.
func TestNoField(t *testing.T) {
	w := crowd(t)
	for _, s := range []string{"", "Pos", "Pos.x in 2..1"} {
		q := parsed(t, s)
		for _, kind := range noKinds() {
			for _, field := range []int{0, -1, 1, 9} {
				wantNoField(t, q, w, kind, field, api.ErrKind)
			}
		}
		for i, kind := range three() {
			for _, field := range noFields(len(kind.Fields)) {
				wantNoField(t, q, w, i+1, field, api.ErrField)
			}
		}
	}
}

// TestAskingChangesNothing: P4, a world and a query are after all asks as they were.
func TestAskingChangesNothing(t *testing.T) {
	w := crowd(t)
	before := w.Snapshot()
	q := parsed(t, "Vel, Pos.x <= 1")
	for range 3 {
		wantText(t, q, "Vel, Pos.x <= 1")
		wantRows(t, q, w, pick(0, 5, 6)...)
		wantFold(t, q, w, 1, 0, 2, 0, 1)
		wantGroup(t, q, w, 1, 0, [2]int64{0, 1}, [2]int64{1, 2})
		wantNoField(t, q, w, 1, 2, api.ErrField)
		wantRows(t, q, nil)
	}
	if after := w.Snapshot(); !bytes.Equal(after, before) {
		t.Errorf("P4: a world that was asked writes %x, want %x", after, before)
	}
	// A world that was cloned or read is asked as the one that it was made of.
	wantRows(t, q, w.Clone(), pick(0, 5, 6)...)
	read, _ := world.Load(three(), before)
	wantRows(t, q, read, pick(0, 5, 6)...)
}
