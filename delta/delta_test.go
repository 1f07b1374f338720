package delta_test

import (
	"bytes"
	"encoding/hex"
	"fmt"
	"math"
	"slices"
	"strings"
	"testing"

	"hindcast/api"
	"hindcast/delta"
	"hindcast/pack"
	"hindcast/world"
)

func e(index, gen int) api.Entity { return api.Entity{Index: index, Gen: gen} }

func p(kind int, values ...int64) api.Part { return api.Part{Kind: kind, Values: values} }

func r(index, gen int, parts ...api.Part) api.Row {
	return api.Row{E: e(index, gen), Parts: parts}
}

func list(parts ...api.Part) []api.Part { return parts }

// two are the kinds of the chapter's examples.
func two() []api.Kind {
	return []api.Kind{{Name: "Pos", Fields: []string{"x"}}, {Name: "Mark"}}
}

// three are Pos, 1 (in a set: 2), Vel, 2 (4), and Mark, 3 (8).
func three() []api.Kind {
	return []api.Kind{{Name: "Pos", Fields: []string{"x", "y"}}, {Name: "Vel", Fields: []string{"x"}}, {Name: "Mark"}}
}

// twelve are as many as there may be, with 0 to 4 fields.
func twelve() []api.Kind {
	fields := []string{"x", "y", "z", "w"}
	kinds := make([]api.Kind, api.MaxKinds)
	for i := range kinds {
		kinds[i] = api.Kind{Name: fmt.Sprintf("K%d", i+1), Fields: fields[:(i+1)%5]}
	}
	return kinds
}

// wrongKinds may not be.
func wrongKinds() map[string][]api.Kind {
	return map[string][]api.Kind{
		"none":            nil,
		"too many":        append(twelve(), api.Kind{Name: "More"}),
		"no name":         {{Name: ""}},
		"no word":         {{Name: "a b"}},
		"a long name":     {{Name: strings.Repeat("a", api.MaxName+1)}},
		"one twice":       {{Name: "A"}, {Name: "A"}},
		"too many fields": {{Name: "A", Fields: []string{"a", "b", "c", "d", "e"}}},
		"a field twice":   {{Name: "A", Fields: []string{"a", "a"}}},
		"a field no word": {{Name: "A", Fields: []string{"1"}}},
	}
}

// pool is the two rows with which a Snapshot begins.
func pool(gens []int64, free ...int64) []byte {
	return pack.PutRow(pack.PutRow(nil, gens), free)
}

func gens(l ...int64) []int64 { return l }

// entry is one change, of which the test knows how it is written: also such as may not be.
type entry struct {
	e        api.Entity
	what     int
	from, to []api.Part
}

func isGone(who api.Entity, parts ...api.Part) entry { return entry{who, 1, parts, nil} }

func isNew(who api.Entity, parts ...api.Part) entry { return entry{who, 2, nil, parts} }

func isChanged(who api.Entity, from, to []api.Part) entry { return entry{who, 3, from, to} }

func set(parts []api.Part) uint64 {
	set := uint64(0)
	for _, part := range parts {
		set |= 1 << part.Kind
	}
	return set
}

// numbers are an entry's, each in bytes of its own, as the chapter says.
func (x entry) numbers() [][]byte {
	numbers := [][]byte{pack.Put(nil, uint64(x.e.Index)), pack.Put(nil, uint64(x.e.Gen)), pack.Put(nil, uint64(x.what))}
	if x.what == 1 || x.what == 3 {
		numbers = append(numbers, pack.Put(nil, set(x.from)))
	}
	if x.what == 2 || x.what == 3 {
		numbers = append(numbers, pack.Put(nil, set(x.to)))
	}
	for _, part := range slices.Concat(x.from, x.to) {
		for _, value := range part.Values {
			numbers = append(numbers, pack.PutInt(nil, value))
		}
	}
	return numbers
}

func (x entry) bytes() []byte { return slices.Concat(x.numbers()...) }

// deltaOf writes a delta as the chapter says.
func deltaOf(from, to []byte, entries ...entry) []byte {
	b := slices.Concat(from, to)
	b = pack.Put(b, uint64(len(entries)))
	for _, x := range entries {
		b = append(b, x.bytes()...)
	}
	return b
}

func fresh(t testing.TB, kinds []api.Kind) *world.World {
	t.Helper()
	w, bad := world.New(kinds)
	if bad != api.OK {
		t.Fatalf("the test's own kinds: %v", bad)
	}
	return w
}

// loaded is the world with this pool and these rows, by rising numbers.
func loaded(t testing.TB, kinds []api.Kind, rows []byte, living ...api.Row) *world.World {
	t.Helper()
	b := slices.Clone(rows)
	for _, row := range living {
		b = pack.Put(b, set(row.Parts))
		for _, part := range row.Parts {
			for _, value := range part.Values {
				b = pack.PutInt(b, value)
			}
		}
	}
	w, bad := world.Load(kinds, b)
	if bad != api.OK {
		t.Fatalf("the test's own world: %v", bad)
	}
	if got := w.Rows(); !slices.EqualFunc(got, living, sameRow) {
		t.Fatalf("the test's own world: %v, want %v", got, living)
	}
	return w
}

func sameRow(a, b api.Row) bool { return a.E == b.E && slices.EqualFunc(a.Parts, b.Parts, samePart) }

func samePart(a, b api.Part) bool { return a.Kind == b.Kind && slices.Equal(a.Values, b.Values) }

func unhex(t testing.TB, text string) []byte {
	t.Helper()
	b, err := hex.DecodeString(strings.NewReplacer(" ", "", ",", "", ":", "").Replace(text))
	if err != nil {
		t.Fatalf("the test's own bytes: %v", err)
	}
	return b
}

func diff(t testing.TB, a, b *world.World) []byte {
	t.Helper()
	d, bad := delta.Diff(a, b)
	if bad != api.OK {
		t.Fatalf("E1: Diff: %v", bad)
	}
	return d
}

func wantBytes(t testing.TB, what string, got, want []byte) {
	t.Helper()
	if !bytes.Equal(got, want) {
		t.Errorf("%s: % x, want % x", what, got, want)
	}
}

// wantApply: what d makes of a is b, and a stays as it is.
func wantApply(t testing.TB, a *world.World, d []byte, b *world.World) {
	t.Helper()
	was := a.Snapshot()
	got, bad := delta.Apply(a, d)
	if bad != api.OK || got == nil {
		t.Errorf("E2: Apply of % x: %v", d, bad)
		return
	}
	wantBytes(t, "E2: Apply", got.Snapshot(), b.Snapshot())
	wantBytes(t, "E2: the world handed to Apply", a.Snapshot(), was)
	if got == a || fmt.Sprint(got.Kinds()) != fmt.Sprint(a.Kinds()) {
		t.Errorf("E2: Apply answers the world that it was handed, or one of other kinds: %v", got.Kinds())
	}
}

func wantNoApply(t testing.TB, why string, a *world.World, d []byte) {
	t.Helper()
	was := a.Snapshot()
	if got, bad := delta.Apply(a, d); got != nil || bad != api.ErrDelta {
		t.Errorf("E2: %s: Apply of % x: %v, %v", why, d, got, bad)
	}
	wantBytes(t, "E2: the world handed to Apply", a.Snapshot(), was)
}

// told writes changes; a list of nothing may be nil or empty.
func told(changes []api.Change) string {
	text := ""
	for _, c := range changes {
		text += fmt.Sprintf("%v %v %v %v %v; ", c.E, c.Gone, c.New, c.Parts, c.Lost)
	}
	return text
}

func wantChanges(t testing.TB, kinds []api.Kind, d []byte, want ...api.Change) {
	t.Helper()
	got, err := delta.Changes(kinds, d)
	if err != nil || told(got) != told(want) {
		t.Errorf("E3: Changes of % x: %s, %v, want %s", d, told(got), err, told(want))
	}
}

func wantFault(t testing.TB, why string, kinds []api.Kind, d []byte, at int, number api.Errno) {
	t.Helper()
	got, err := delta.Changes(kinds, d)
	fault, is := err.(*api.Fault)
	if got != nil || !is || fault == nil || fault.At != at || fault.Err != number {
		t.Errorf("E3: %s: Changes of % x: %v, %v, want %d at %d", why, d, got, err, number, at)
	}
}

func wantJoin(t testing.TB, kinds []api.Kind, d, next, want []byte) {
	t.Helper()
	got, bad := delta.Join(kinds, d, next)
	if bad != api.OK || !bytes.Equal(got, want) {
		t.Errorf("E4: Join of % x and % x: % x, %v, want % x", d, next, got, bad, want)
	}
}

func wantNoJoin(t testing.TB, why string, kinds []api.Kind, d, next []byte) {
	t.Helper()
	if got, bad := delta.Join(kinds, d, next); got != nil || bad != api.ErrDelta {
		t.Errorf("E4: %s: Join of % x and % x: % x, %v", why, d, next, got, bad)
	}
}

// TestExamples: those of the chapter, one by one.
func TestExamples(t *testing.T) {
	a, b := fresh(t, two()), fresh(t, two())
	b.Spawn(list(p(1, 7)))
	c := b.Clone()
	c.Set(e(0, 1), p(1, 8))
	c.Add(e(0, 1), p(2))
	one, other := unhex(t, "00 00, 01 00 02 00, 01: 00 01 02 02 0e"), unhex(t, "01 00 02 00, 01 00 02 00, 01: 00 01 03 02 06 0e 10")
	both := unhex(t, "00 00, 01 00 02 00, 01: 00 01 02 06 10")
	wantBytes(t, "E1: Diff(a, b)", diff(t, a, b), one)
	wantBytes(t, "E1: Diff(b, c)", diff(t, b, c), other)
	wantBytes(t, "E1: Diff(a, c)", diff(t, a, c), both)
	wantChanges(t, two(), one, api.Change{E: e(0, 1), New: true, Parts: list(p(1, 7))})
	wantJoin(t, two(), one, other, both)
	wantApply(t, a, one, b)
	wantApply(t, b, other, c)
	wantApply(t, a, both, c)
	wantNoApply(t, "from another world", a, other)
	wantFault(t, "no What", two(), unhex(t, "00 00 00 00 01 00 01 04"), 7, api.ErrDelta)
	wantFault(t, "a byte left over", two(), unhex(t, "00 00 00 00 00 00"), 5, api.ErrDelta)
}

// TestDiffRefuses: E1, no world, and worlds of other kinds, the former first.
func TestDiffRefuses(t *testing.T) {
	w := fresh(t, three())
	for _, pair := range [][2]*world.World{{nil, w}, {w, nil}, {nil, nil}} {
		if d, bad := delta.Diff(pair[0], pair[1]); d != nil || bad != api.ErrArg {
			t.Errorf("E1: Diff without a world: % x, %v", d, bad)
		}
	}
	others := map[string]func(kinds []api.Kind) []api.Kind{
		"a name":         func(kinds []api.Kind) []api.Kind { kinds[1].Name = "Val"; return kinds },
		"a field's name": func(kinds []api.Kind) []api.Kind { kinds[0].Fields[1] = "z"; return kinds },
		"fields' order":  func(kinds []api.Kind) []api.Kind { kinds[0].Fields = []string{"y", "x"}; return kinds },
		"a field less":   func(kinds []api.Kind) []api.Kind { kinds[1].Fields = nil; return kinds },
		"a field more":   func(kinds []api.Kind) []api.Kind { kinds[2].Fields = []string{"x"}; return kinds },
		"a kind less":    func(kinds []api.Kind) []api.Kind { return kinds[:2] },
		"a kind more":    func(kinds []api.Kind) []api.Kind { return append(kinds, api.Kind{Name: "More"}) },
		"kinds' order":   func(kinds []api.Kind) []api.Kind { kinds[0], kinds[1] = kinds[1], kinds[0]; return kinds },
	}
	for what, turn := range others {
		other := fresh(t, turn(three()))
		for _, pair := range [][2]*world.World{{w, other}, {other, w}} {
			if d, bad := delta.Diff(pair[0], pair[1]); d != nil || bad != api.ErrKinds {
				t.Errorf("E1: Diff of worlds unlike in %s: % x, %v", what, d, bad)
			}
		}
	}
	empty := three()
	empty[2].Fields = []string{}
	wantBytes(t, "E1: Diff with a list of no fields that is not nil", diff(t, w, fresh(t, empty)), make([]byte, 5))
}

// pairs are worlds, and the delta from the first to the second, in words of the chapter.
func pairs(t testing.TB) map[string]struct {
	a, b *world.World
	d    []byte
} {
	type pair = struct {
		a, b *world.World
		d    []byte
	}
	k := three()
	none, alone, both := pool(nil), pool(gens(1)), pool(gens(1, 1))
	w := func(rows []byte, living ...api.Row) *world.World { return loaded(t, k, rows, living...) }
	least, most := int64(math.MinInt64), int64(math.MaxInt64)
	worn := pool(gens(api.MaxGen + 1))
	last := pool(gens(api.MaxGen))
	far := slices.Repeat(gens(1), 200)
	return map[string]pair{
		"nobody":             {w(none), w(none), deltaOf(none, none)},
		"nothing":            {w(alone, r(0, 1, p(1, 5, 6))), w(alone, r(0, 1, p(1, 5, 6))), deltaOf(alone, alone)},
		"new":                {w(none), w(alone, r(0, 1, p(1, 5, -6), p(2, 7), p(3))), deltaOf(none, alone, isNew(e(0, 1), p(1, 5, -6), p(2, 7), p(3)))},
		"new with nothing":   {w(none), w(alone, r(0, 1)), deltaOf(none, alone, isNew(e(0, 1)))},
		"gone":               {w(alone, r(0, 1, p(2, 7), p(3))), w(pool(gens(1), 0)), deltaOf(alone, pool(gens(1), 0), isGone(e(0, 1), p(2, 7), p(3)))},
		"gone with nothing":  {w(alone, r(0, 1)), w(pool(gens(1), 0)), deltaOf(alone, pool(gens(1), 0), isGone(e(0, 1)))},
		"gone, never there":  {w(alone, r(0, 1, p(3))), w(none), deltaOf(alone, none, isGone(e(0, 1), p(3)))},
		"a value":            {w(alone, r(0, 1, p(1, 5, 6), p(2, 7))), w(alone, r(0, 1, p(1, 5, 9), p(2, 7))), deltaOf(alone, alone, isChanged(e(0, 1), list(p(1, 5, 6)), list(p(1, 5, 9))))},
		"a first value":      {w(alone, r(0, 1, p(1, 5, 6), p(3))), w(alone, r(0, 1, p(1, 0, 6), p(3))), deltaOf(alone, alone, isChanged(e(0, 1), list(p(1, 5, 6)), list(p(1, 0, 6))))},
		"a part comes":       {w(alone, r(0, 1, p(2, 7))), w(alone, r(0, 1, p(2, 7), p(3))), deltaOf(alone, alone, isChanged(e(0, 1), nil, list(p(3))))},
		"a part goes":        {w(alone, r(0, 1, p(1, 5, 6), p(2, 7))), w(alone, r(0, 1, p(2, 7))), deltaOf(alone, alone, isChanged(e(0, 1), list(p(1, 5, 6)), nil))},
		"all at once":        {w(alone, r(0, 1, p(1, 5, 6), p(2, 7))), w(alone, r(0, 1, p(2, 8), p(3))), deltaOf(alone, alone, isChanged(e(0, 1), list(p(1, 5, 6), p(2, 7)), list(p(2, 8), p(3))))},
		"the others stay":    {w(pool(gens(1, 1, 1)), r(0, 1, p(3)), r(1, 1, p(2, 7)), r(2, 1)), w(pool(gens(1, 1, 1)), r(0, 1, p(3)), r(1, 1, p(2, 8)), r(2, 1)), deltaOf(pool(gens(1, 1, 1)), pool(gens(1, 1, 1)), isChanged(e(1, 1), list(p(2, 7)), list(p(2, 8))))},
		"one after another":  {w(alone, r(0, 1, p(2, 7))), w(pool(gens(3)), r(0, 3, p(2, 7))), deltaOf(alone, pool(gens(3)), isGone(e(0, 1), p(2, 7)), isNew(e(0, 3), p(2, 7)))},
		"back to one ahead":  {w(pool(gens(3)), r(0, 3, p(2, 7))), w(alone, r(0, 1, p(3))), deltaOf(pool(gens(3)), alone, isNew(e(0, 1), p(3)), isGone(e(0, 3), p(2, 7)))},
		"some of each":       {w(pool(gens(1, 2, 1)), r(0, 1), r(1, 2, p(2, 1)), r(2, 1, p(3))), w(pool(gens(1, 1, 1, 5), 0), r(1, 1, p(2, 1)), r(2, 1, p(2, 1), p(3)), r(3, 5)), deltaOf(pool(gens(1, 2, 1)), pool(gens(1, 1, 1, 5), 0), isGone(e(0, 1)), isNew(e(1, 1), p(2, 1)), isGone(e(1, 2), p(2, 1)), isChanged(e(2, 1), nil, list(p(2, 1))), isNew(e(3, 5)))},
		"the free row alone": {w(pool(gens(1, 1), 0, 1)), w(pool(gens(1, 1), 1, 0)), deltaOf(pool(gens(1, 1), 0, 1), pool(gens(1, 1), 1, 0))},
		"generations alone":  {w(pool(gens(1, 1), 0), r(1, 1, p(2, 4))), w(pool(gens(9, 1), 0), r(1, 1, p(2, 4))), deltaOf(pool(gens(1, 1), 0), pool(gens(9, 1), 0))},
		"the ends":           {w(both, r(0, 1, p(1, least, most)), r(1, 1, p(2, 0))), w(both, r(0, 1, p(1, most, least)), r(1, 1, p(2, -1))), deltaOf(both, both, isChanged(e(0, 1), list(p(1, least, most)), list(p(1, most, least))), isChanged(e(1, 1), list(p(2, 0)), list(p(2, -1))))},
		"worn out":           {w(last, r(0, api.MaxGen, p(3))), w(worn), deltaOf(last, worn, isGone(e(0, api.MaxGen), p(3)))},
		"the last number":    {w(pool(far, allBut(199)...), r(199, 1, p(2, 1))), w(pool(far, allBut(198)...), r(198, 1, p(2, 1))), deltaOf(pool(far, allBut(199)...), pool(far, allBut(198)...), isNew(e(198, 1), p(2, 1)), isGone(e(199, 1), p(2, 1)))},
	}
}

// allBut are the numbers of all entities but one.
func allBut(number int64) []int64 {
	var numbers []int64
	for i := range int64(api.MaxEntities) {
		if i != number {
			numbers = append(numbers, i)
		}
	}
	return numbers
}

// TestDiff: E1, who is gone, new, changed, and what of whom is told, by rising numbers and generations.
func TestDiff(t *testing.T) {
	for what, pair := range pairs(t) {
		wantBytes(t, "E1: "+what, diff(t, pair.a, pair.b), pair.d)
	}
	whole := loaded(t, three(), pool(gens(1)), r(0, 1, p(2, 7)))
	wantBytes(t, "E1: from a world to itself", diff(t, whole, whole), deltaOf(pool(gens(1)), pool(gens(1))))
}

// TestDiffBytes: E1, some deltas byte by byte, as the chapter and chapter 1 lay them down.
func TestDiffBytes(t *testing.T) {
	all := pairs(t)
	for what, want := range map[string]string{
		"nobody":            "00 00 00 00 00",
		"new":               "00 00, 01 00 02 00, 01: 00 01 02 0e 0a 0b 0e",
		"gone":              "01 00 02 00, 01 00 02 01 00 00, 01: 00 01 01 0c 0e",
		"all at once":       "01 00 02 00, 01 00 02 00, 01: 00 01 03 06 0c 0a 0c 0e 10",
		"one after another": "01 00 02 00, 01 00 06 00, 02: 00 01 01 04 0e 00 03 02 04 0e",
		"back to one ahead": "01 00 06 00, 01 00 02 00, 02: 00 01 02 08 00 03 01 04 0e",
		"worn out":          "01 00 80 89 7a 00, 01 00 82 89 7a 00, 01: 00 c0 84 3d 01 08",
	} {
		wantBytes(t, "E1: "+what, diff(t, all[what].a, all[what].b), unhex(t, want))
	}
	tail := unhex(t, "02: c6 01 01 02 04 02 c7 01 01 01 04 02")
	if d := diff(t, all["the last number"].a, all["the last number"].b); !bytes.HasSuffix(d, tail) {
		t.Errorf("E1: the last number: % x, want % x at the end", d, tail)
	}
}

// TestDiffRows: E1, a delta begins with what the two Snapshots begin with.
func TestDiffRows(t *testing.T) {
	for what, pair := range pairs(t) {
		rest := pair.d
		for _, w := range []*world.World{pair.a, pair.b} {
			snapshot := w.Snapshot()
			_, one := pack.GetRow(snapshot, api.MaxEntities)
			_, other := pack.GetRow(snapshot[one:], api.MaxEntities)
			if !bytes.HasPrefix(rest, snapshot[:one+other]) {
				t.Errorf("E1: %s: % x does not go on with % x", what, rest, snapshot[:one+other])
				break
			}
			rest = rest[one+other:]
		}
	}
}

// TestApply: E2, a delta leads from the one world to the other one; from no world there is no way.
func TestApply(t *testing.T) {
	for _, pair := range pairs(t) {
		wantApply(t, pair.a, pair.d, pair.b)
		wantApply(t, pair.b, diff(t, pair.b, pair.a), pair.a)
		if w, bad := delta.Apply(nil, pair.d); w != nil || bad != api.ErrArg {
			t.Errorf("E2: Apply without a world: %v, %v", w, bad)
		}
	}
	if w, bad := delta.Apply(nil, nil); w != nil || bad != api.ErrArg {
		t.Errorf("P2: Apply without a world, of no delta: %v, %v", w, bad)
	}
}

// TestApplyGoesOn: E2, who comes next in the world that Apply made is who comes next in the one that is meant.
func TestApplyGoesOn(t *testing.T) {
	for what, pair := range pairs(t) {
		got, bad := delta.Apply(pair.a, pair.d)
		if bad != api.OK {
			t.Errorf("E2: %s: %v", what, bad)
			continue
		}
		for range 3 {
			one, _ := got.Spawn(nil)
			other, _ := pair.b.Spawn(nil)
			if one != other {
				t.Errorf("E2: %s: %v comes next, want %v", what, one, other)
			}
		}
	}
}

// TestApplyLeavesTheRest: E2, of what a delta does not speak, all stays as it is in a.
func TestApplyLeavesTheRest(t *testing.T) {
	rows := pool(gens(1, 4, 1), 2)
	d := deltaOf(rows, rows, isChanged(e(0, 1), list(p(2, 7)), list(p(2, 8))), isChanged(e(1, 4), list(p(3)), list(p(1, 1, 2))))
	for _, stays := range []struct{ one, other []api.Part }{
		{list(), list()},
		{list(p(1, 5, 6)), list(p(2, 3))},
		{list(p(3)), list(p(2, 9))},
		{list(p(1, 0, 0), p(3)), list()},
	} {
		parts := func(changed api.Part, stays []api.Part) []api.Part {
			all := append(slices.Clone(stays), changed)
			slices.SortFunc(all, func(a, b api.Part) int { return a.Kind - b.Kind })
			return all
		}
		a := loaded(t, three(), rows, r(0, 1, parts(p(2, 7), stays.one)...), r(1, 4, parts(p(3), stays.other)...))
		b := loaded(t, three(), rows, r(0, 1, parts(p(2, 8), stays.one)...), r(1, 4, parts(p(1, 1, 2), stays.other)...))
		wantApply(t, a, d, b)
	}
}

// TestApplyRefuses: E2, what leads from a to no world at all, although it has the form.
func TestApplyRefuses(t *testing.T) {
	from := pool(gens(1, 2, 1, 1), 3)
	to := pool(gens(1, 2, 1, 1), 3)
	a := loaded(t, three(), from, r(0, 1, p(1, 5, 6), p(2, 7)), r(1, 2, p(3)), r(2, 1))
	less := pool(gens(1, 2, 1, 1), 3, 2) // 2 1 does not live
	more := pool(gens(1, 2, 1, 2))       // 3 2 lives
	wantApply(t, a, deltaOf(from, to), a)
	wantApply(t, a, deltaOf(from, less, isGone(e(2, 1))), loaded(t, three(), less, r(0, 1, p(1, 5, 6), p(2, 7)), r(1, 2, p(3))))
	wantApply(t, a, deltaOf(from, more, isNew(e(3, 2))), loaded(t, three(), more, r(0, 1, p(1, 5, 6), p(2, 7)), r(1, 2, p(3)), r(2, 1), r(3, 2)))
	for why, d := range map[string][]byte{
		"other rows ahead":                        deltaOf(pool(gens(1, 2, 1, 2), 3), to),
		"another free row ahead":                  deltaOf(pool(gens(1, 2, 1, 1)), to),
		"rows of nobody ahead":                    deltaOf(pool(nil), to),
		"one gone who is not told":                deltaOf(from, less),
		"one new who is not told":                 deltaOf(from, more),
		"one gone who lives on":                   deltaOf(from, to, isGone(e(2, 1))),
		"one gone who never lived":                deltaOf(from, to, isGone(e(3, 1))),
		"one gone, of another generation":         deltaOf(from, less, isGone(e(2, 2))),
		"one gone, and one that never lived":      deltaOf(from, less, isGone(e(2, 1)), isGone(e(2, 2))),
		"one gone with a part too much":           deltaOf(from, less, isGone(e(2, 1), p(3))),
		"one gone with a part too few":            deltaOf(from, pool(gens(1, 2, 1, 1), 3, 1), isGone(e(1, 2))),
		"one gone with another value":             deltaOf(from, pool(gens(1, 2, 1, 1), 3, 0), isGone(e(0, 1), p(1, 5, 6), p(2, 8))),
		"one new who lived":                       deltaOf(from, to, isNew(e(2, 1))),
		"one new who does not live":               deltaOf(from, to, isNew(e(3, 2))),
		"one new, of another generation":          deltaOf(from, more, isNew(e(3, 1))),
		"one new, of a number that has none":      deltaOf(from, more, isNew(e(3, 2)), isNew(e(4, 1))),
		"one new, under the number of another":    deltaOf(from, to, isNew(e(2, 9))),
		"one new for one who is not told":         deltaOf(from, pool(gens(1, 2, 9, 1), 3), isNew(e(2, 9))),
		"one gone for one who is not told":        deltaOf(from, pool(gens(1, 2, 9, 1), 3), isGone(e(2, 1))),
		"one changed who does not live":           deltaOf(from, to, isChanged(e(3, 1), nil, list(p(3)))),
		"one changed who is to come":              deltaOf(from, more, isChanged(e(3, 2), nil, list(p(3)))),
		"one changed who is not to stay":          deltaOf(from, less, isChanged(e(2, 1), nil, list(p(3)))),
		"one changed, of another generation":      deltaOf(from, to, isChanged(e(2, 2), nil, list(p(3)))),
		"one changed, with another value":         deltaOf(from, to, isChanged(e(0, 1), list(p(2, 8)), list(p(2, 9)))),
		"one changed, with a value as it will be": deltaOf(from, to, isChanged(e(0, 1), list(p(2, 8)), list(p(2, 7)))),
		"one changed, with a part it has not":     deltaOf(from, to, isChanged(e(2, 1), list(p(3)), nil)),
		"one changed, with values it has not":     deltaOf(from, to, isChanged(e(2, 1), list(p(2, 1)), list(p(2, 2)))),
		"one changed, to a part it has":           deltaOf(from, to, isChanged(e(1, 2), nil, list(p(3)))),
		"one changed, to values it has":           deltaOf(from, to, isChanged(e(0, 1), nil, list(p(1, 5, 6)))),
		"one changed, to a kind it has":           deltaOf(from, to, isChanged(e(0, 1), nil, list(p(2, 1)))),
		"a generation 0 behind":                   deltaOf(from, pool(gens(1, 2, 1, 0), 3)),
		"a generation too great behind":           deltaOf(from, pool(gens(1, 2, 1, api.MaxGen+2), 3)),
		"a generation far too great":              deltaOf(from, pool(gens(1, 2, 1, math.MaxInt64))),
		"a generation below 0":                    deltaOf(from, pool(gens(1, 2, 1, -1), 3)),
		"a number free twice behind":              deltaOf(from, pool(gens(1, 2, 1, 1), 3, 3)),
		"a free number that there is not":         deltaOf(from, pool(gens(1, 2, 1, 1), 3, 4)),
		"a free number below 0":                   deltaOf(from, pool(gens(1, 2, 1, 1), 3, -1)),
		"a worn out number that is free":          deltaOf(from, pool(gens(1, 2, 1, api.MaxGen), 3)),
		"no rows behind":                          deltaOf(from, pool(nil)),
		"rows alone":                              slices.Concat(from, to),
		"a byte too much":                         append(deltaOf(from, to), 0),
		"no bytes":                                nil,
	} {
		wantNoApply(t, why, a, d)
	}
}

// TestApplyWantsTheForm: E2, what has not the form is no delta: a change that changes nothing, changes in another order, sets and values that may not be.
func TestApplyWantsTheForm(t *testing.T) {
	rows := pool(gens(1, 1))
	a := loaded(t, three(), rows, r(0, 1, p(2, 7), p(3)), r(1, 1))
	one, other := isChanged(e(0, 1), list(p(3)), nil), isChanged(e(1, 1), nil, list(p(3)))
	wantApply(t, a, deltaOf(rows, rows, one, other), loaded(t, three(), rows, r(0, 1, p(2, 7)), r(1, 1, p(3))))
	for why, d := range map[string][]byte{
		"in another order":           deltaOf(rows, rows, other, one),
		"twice":                      deltaOf(rows, rows, one, one),
		"no touched kind":            deltaOf(rows, rows, isChanged(e(0, 1), nil, nil)),
		"a kind as it is":            deltaOf(rows, rows, isChanged(e(0, 1), list(p(2, 7)), list(p(2, 7)))),
		"a kind without fields":      deltaOf(rows, rows, isChanged(e(0, 1), list(p(3)), list(p(3)))),
		"a kind that there is not":   deltaOf(rows, rows, isChanged(e(0, 1), nil, list(p(4)))),
		"the kind 0":                 deltaOf(rows, rows, isChanged(e(0, 1), nil, list(p(0)))),
		"a value too few":            deltaOf(rows, rows, isChanged(e(0, 1), nil, list(p(1, 1)))),
		"a value too much":           deltaOf(rows, rows, isChanged(e(0, 1), nil, list(p(1, 1, 2, 3)))),
		"more changes than told":     slices.Concat(rows, rows, []byte{1}, one.bytes(), other.bytes()),
		"fewer changes than told":    slices.Concat(rows, rows, []byte{2}, one.bytes()),
		"a number in too many bytes": slices.Concat(rows, rows, []byte{0x80, 0}),
	} {
		wantNoApply(t, why, a, d)
	}
}
