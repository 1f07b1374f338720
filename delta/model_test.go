package delta_test

import (
	"bytes"
	"fmt"
	"maps"
	"math/rand"
	"slices"
	"testing"

	"hindcast/api"
	"hindcast/delta"
	"hindcast/ids"
	"hindcast/pack"
	"hindcast/world"
)

// model is a delta as the chapter's words say it.
type model struct {
	rows    [4][]int64
	entries []entry
}

func (m model) bytes() []byte {
	return deltaOf(slices.Concat(pack.PutRow(nil, m.rows[0]), pack.PutRow(nil, m.rows[1])), slices.Concat(pack.PutRow(nil, m.rows[2]), pack.PutRow(nil, m.rows[3])), m.entries...)
}

func (m model) clone() model {
	for i, row := range m.rows {
		m.rows[i] = slices.Clone(row)
	}
	m.entries = slices.Clone(m.entries)
	for i, x := range m.entries {
		m.entries[i].from, m.entries[i].to = cloneParts(x.from), cloneParts(x.to)
	}
	return m
}

func cloneParts(parts []api.Part) []api.Part {
	clone := slices.Clone(parts)
	for i, part := range parts {
		clone[i].Values = slices.Clone(part.Values)
	}
	return clone
}

// parsed reads a delta; the place is -1, or where the form is not kept.
func parsed(kinds []api.Kind, d []byte) (m model, at int) {
	place := 0
	defer func() {
		if wrong := recover(); wrong != nil {
			m, at = model{}, wrong.(int)
		}
	}()
	number := func(may func(n uint64) bool) uint64 {
		n, size := pack.Get(d[place:])
		if size == 0 || !may(n) {
			panic(place)
		}
		place += size
		return n
	}
	anyNumber := func(uint64) bool { return true }
	someKinds := func(n uint64) bool {
		for bit := range 64 {
			if n>>bit&1 == 1 && (bit == 0 || bit > len(kinds)) {
				return false
			}
		}
		return true
	}
	parts := func(set uint64, others []api.Part) (parts []api.Part) {
		for k, kind := range kinds {
			if set>>(k+1)&1 == 0 {
				continue
			}
			begin, part := place, api.Part{Kind: k + 1}
			for range kind.Fields {
				n := number(anyNumber)
				part.Values = append(part.Values, int64(n>>1)^-int64(n&1))
			}
			if slices.ContainsFunc(others, func(other api.Part) bool { return samePart(part, other) }) {
				panic(begin)
			}
			parts = append(parts, part)
		}
		return parts
	}
	for i := range m.rows {
		row, size := pack.GetRow(d[place:], 200)
		if size == 0 {
			panic(place)
		}
		m.rows[i], place = row, place+size
	}
	for left := number(anyNumber); left > 0; left-- {
		last := entry{e: e(-1, 0)}
		if len(m.entries) > 0 {
			last = m.entries[len(m.entries)-1]
		}
		x := entry{}
		x.e.Index = int(number(func(n uint64) bool { return n < 200 && int(n) >= last.e.Index }))
		x.e.Gen = int(number(func(n uint64) bool {
			return n > 0 && n <= 1000000 && (x.e.Index > last.e.Index || int(n) > last.e.Gen)
		}))
		x.what = int(number(func(n uint64) bool { return n == 1 || n == 2 || n == 3 }))
		first := number(someKinds)
		switch x.what {
		case 1:
			x.from = parts(first, nil)
		case 2:
			x.to = parts(first, nil)
		case 3:
			second := number(func(n uint64) bool {
				for k, kind := range kinds {
					if n>>(k+1)&1 == 1 && first>>(k+1)&1 == 1 && len(kind.Fields) == 0 {
						return false
					}
				}
				return someKinds(n) && (n > 0 || first > 0)
			})
			x.from = parts(first, nil)
			x.to = parts(second, x.from)
		}
		m.entries = append(m.entries, x)
	}
	if place < len(d) {
		panic(place)
	}
	return m, -1
}

// changes are what E3 tells of it.
func (m model) changes() []api.Change {
	var changes []api.Change
	for _, x := range m.entries {
		c := api.Change{E: x.e, Gone: x.what == 1, New: x.what == 2}
		if x.what != 1 {
			c.Parts = x.to
		}
		if x.what == 3 {
			for _, part := range x.from {
				if _, has := byKind(x.to)[part.Kind]; !has {
					c.Lost = append(c.Lost, part.Kind)
				}
			}
		}
		changes = append(changes, c)
	}
	return changes
}

// byKind gives each part's values as a text; kinds that are not there have none.
func byKind(parts []api.Part) map[int]string {
	texts := map[int]string{}
	for _, part := range parts {
		texts[part.Kind] = fmt.Sprint(part.Values)
	}
	return texts
}

// of gives the values of a part as a text, or that there is none.
func of(parts []api.Part, kind int) string {
	if text, has := byKind(parts)[kind]; has {
		return text
	}
	return "none"
}

// touched are the kinds of a changed one.
func touched(x entry) []int {
	kinds := byKind(x.from)
	maps.Copy(kinds, byKind(x.to))
	return slices.Sorted(maps.Keys(kinds))
}

// take gives the part of a kind, as a list of one or none.
func take(parts []api.Part, kind int) []api.Part {
	for _, part := range parts {
		if part.Kind == kind {
			return []api.Part{part}
		}
	}
	return nil
}

// apart makes a changed one of what was and what is, kind by kind; false, if no kind is touched.
func apart(who api.Entity, from, to []api.Part) (entry, bool) {
	x := entry{e: who, what: 3}
	for kind := 1; kind <= 12; kind++ {
		if of(from, kind) != of(to, kind) {
			x.from, x.to = append(x.from, take(from, kind)...), append(x.to, take(to, kind)...)
		}
	}
	return x, len(x.from)+len(x.to) > 0
}

// pair is what E4 says of an entity that both name: what it is, whether it is anything, and whether the two fit.
func pair(d, n entry) (x entry, something bool, fits bool) {
	switch [2]int{d.what, n.what} {
	case [2]int{2, 3}:
		x = entry{e: d.e, what: 2}
		for kind := 1; kind <= 12; kind++ {
			if !slices.Contains(touched(n), kind) {
				x.to = append(x.to, take(d.to, kind)...)
			} else if of(d.to, kind) != of(n.from, kind) {
				return entry{}, false, false
			} else {
				x.to = append(x.to, take(n.to, kind)...)
			}
		}
		return x, true, true
	case [2]int{2, 1}:
		return entry{}, false, fmt.Sprint(byKind(d.to)) == fmt.Sprint(byKind(n.from))
	case [2]int{3, 3}:
		var was, is []api.Part
		for kind := 1; kind <= 12; kind++ {
			one, other := slices.Contains(touched(d), kind), slices.Contains(touched(n), kind)
			switch {
			case one && other:
				if of(d.to, kind) != of(n.from, kind) {
					return entry{}, false, false
				}
				was, is = append(was, take(d.from, kind)...), append(is, take(n.to, kind)...)
			case one:
				was, is = append(was, take(d.from, kind)...), append(is, take(d.to, kind)...)
			case other:
				was, is = append(was, take(n.from, kind)...), append(is, take(n.to, kind)...)
			}
		}
		x, something = apart(d.e, was, is)
		return x, something, true
	case [2]int{3, 1}:
		x = entry{e: d.e, what: 1}
		for kind := 1; kind <= 12; kind++ {
			if !slices.Contains(touched(d), kind) {
				x.from = append(x.from, take(n.from, kind)...)
			} else if of(d.to, kind) != of(n.from, kind) {
				return entry{}, false, false
			} else {
				x.from = append(x.from, take(d.from, kind)...)
			}
		}
		return x, true, true
	case [2]int{1, 2}:
		x, something = apart(d.e, d.from, n.to)
		return x, something, true
	}
	return entry{}, false, false
}

// join is what E4 says of two that have the form; false, if they do not follow one another. It counts the cases that it sees.
func join(d, n model, seen map[string]int) (model, bool) {
	if fmt.Sprint(d.rows[2:]) != fmt.Sprint(n.rows[:2]) {
		seen["join: other rows"]++
		return model{}, false
	}
	m := model{rows: [4][]int64{d.rows[0], d.rows[1], n.rows[2], n.rows[3]}}
	all := true
	for _, x := range d.entries {
		at := slices.IndexFunc(n.entries, func(other entry) bool { return other.e == x.e })
		if at < 0 {
			m.entries = append(m.entries, x)
			continue
		}
		both, something, fits := pair(x, n.entries[at])
		seen[fmt.Sprintf("join: %d then %d: fits %v, something %v", x.what, n.entries[at].what, fits, something)]++
		all = all && fits
		if something {
			m.entries = append(m.entries, both)
		}
	}
	for _, x := range n.entries {
		if !slices.ContainsFunc(d.entries, func(other entry) bool { return other.e == x.e }) {
			m.entries = append(m.entries, x)
		}
	}
	slices.SortFunc(m.entries, func(a, b entry) int {
		return (a.e.Index-b.e.Index)*10000000 + a.e.Gen - b.e.Gen
	})
	return m, all
}

// apply is what E2 says of a delta that has the form: each change must be right for a, and what comes of it must be a world.
func apply(a *world.World, m model) ([]api.Row, bool) {
	rows, free := a.Snapshot(), 0
	_, first := pack.GetRow(rows, 200)
	_, free = pack.GetRow(rows[first:], 200)
	if !bytes.Equal(rows[:first+free], slices.Concat(pack.PutRow(nil, m.rows[0]), pack.PutRow(nil, m.rows[1]))) {
		return nil, false
	}
	living := map[api.Entity][]api.Part{}
	for _, row := range a.Rows() {
		living[row.E] = row.Parts
	}
	for _, x := range m.entries {
		row, stale := a.Row(x.e)
		switch x.what {
		case 1:
			if stale != api.OK || fmt.Sprint(byKind(row.Parts)) != fmt.Sprint(byKind(x.from)) {
				return nil, false
			}
			delete(living, x.e)
		case 2:
			if stale == api.OK {
				return nil, false
			}
			living[x.e] = x.to
		case 3:
			var parts []api.Part
			for kind := 1; kind <= 12; kind++ {
				if !slices.Contains(touched(x), kind) {
					parts = append(parts, take(row.Parts, kind)...)
				} else if of(row.Parts, kind) != of(x.from, kind) {
					return nil, false
				} else {
					parts = append(parts, take(x.to, kind)...)
				}
			}
			if stale != api.OK {
				return nil, false
			}
			living[x.e] = parts
		}
	}
	return settled(m.rows[2], m.rows[3], living)
}

// settled gives the rows of a world with that pool, if those who live there are just these.
func settled(gens, free []int64, living map[api.Entity][]api.Part) ([]api.Row, bool) {
	pool, bad := ids.From(200, narrow(gens), narrow(free))
	if bad != api.OK || len(pool.All()) != len(living) {
		return nil, false
	}
	var rows []api.Row
	for _, one := range pool.All() {
		parts, lives := living[one]
		if !lives {
			return nil, false
		}
		rows = append(rows, api.Row{E: one, Parts: parts})
	}
	return rows, true
}

func narrow(row []int64) []int {
	var numbers []int
	for _, x := range row {
		numbers = append(numbers, int(x))
	}
	return numbers
}

// between is what E1 says: each entity that may live in one of the two, kind by kind.
func (m model) between(a, b *world.World) model {
	for i, w := range []*world.World{a, b} {
		snapshot := w.Snapshot()
		row, size := pack.GetRow(snapshot, 200)
		m.rows[2*i] = row
		m.rows[2*i+1], _ = pack.GetRow(snapshot[size:], 200)
	}
	for index := range 200 {
		gens := map[int]int{}
		for _, row := range slices.Concat(a.Rows(), b.Rows()) {
			if row.E.Index == index {
				gens[row.E.Gen]++
			}
		}
		for _, gen := range slices.Sorted(maps.Keys(gens)) {
			one, other := e(index, gen), e(index, gen)
			was, noA := a.Row(one)
			is, noB := b.Row(other)
			switch {
			case noB != api.OK:
				m.entries = append(m.entries, isGone(one, was.Parts...))
			case noA != api.OK:
				m.entries = append(m.entries, isNew(one, is.Parts...))
			default:
				if x, something := apart(one, was.Parts, is.Parts); something {
					m.entries = append(m.entries, x)
				}
			}
		}
	}
	return m
}

// compareChanges holds Changes against the model.
func compareChanges(t testing.TB, kinds []api.Kind, d []byte, seen map[string]int) {
	t.Helper()
	m, at := parsed(kinds, d)
	if at >= 0 {
		seen["changes: fault"]++
		wantFault(t, "by the model", kinds, d, at, api.ErrDelta)
		return
	}
	seen["changes: right"]++
	wantChanges(t, kinds, d, m.changes()...)
}

// compareJoin holds Join against the model.
func compareJoin(t testing.TB, kinds []api.Kind, d, next []byte, seen map[string]int) {
	t.Helper()
	one, at := parsed(kinds, d)
	other, atOther := parsed(kinds, next)
	both, fits := model{}, false
	if at < 0 && atOther < 0 {
		both, fits = join(one, other, seen)
	}
	if !fits {
		seen["join: no"]++
		wantNoJoin(t, "by the model", kinds, d, next)
		return
	}
	seen["join: yes"]++
	wantJoin(t, kinds, d, next, both.bytes())
}

// compareApply holds Apply against the model.
func compareApply(t testing.TB, a *world.World, d []byte, seen map[string]int) {
	t.Helper()
	m, at := parsed(a.Kinds(), d)
	rows, fits := []api.Row(nil), false
	if at < 0 {
		rows, fits = apply(a, m)
	}
	if !fits {
		seen["apply: no"]++
		wantNoApply(t, "by the model", a, d)
		return
	}
	seen["apply: yes"]++
	wantApply(t, a, d, loaded(t, a.Kinds(), slices.Concat(pack.PutRow(nil, m.rows[2]), pack.PutRow(nil, m.rows[3])), rows...))
}

// someKinds are one of three lists of kinds.
func someKinds(r *rand.Rand) []api.Kind {
	switch r.Intn(3) {
	case 0:
		return two()
	case 1:
		return three()
	}
	return twelve()
}

// someParts are parts of some kinds, by rising kinds, with values that are often the same.
func someParts(r *rand.Rand, kinds []api.Kind) []api.Part {
	var parts []api.Part
	for k := range kinds {
		if r.Intn(2+len(kinds)/6) == 0 {
			parts = append(parts, somePart(r, kinds, k+1))
		}
	}
	return parts
}

func somePart(r *rand.Rand, kinds []api.Kind, kind int) api.Part {
	part := api.Part{Kind: kind}
	for range kinds[kind-1].Fields {
		value := int64(r.Intn(3) - 1)
		if r.Intn(20) == 0 {
			value = int64(r.Uint64())
		}
		part.Values = append(part.Values, value)
	}
	return part
}

// grow does some things to a world.
func grow(r *rand.Rand, w *world.World) *world.World {
	w = w.Clone()
	kinds := w.Kinds()
	for range r.Intn(8) {
		rows := w.Rows()
		if len(rows) == 0 || r.Intn(4) == 0 {
			w.Spawn(someParts(r, kinds))
			continue
		}
		one, kind := rows[r.Intn(len(rows))].E, 1+r.Intn(len(kinds))
		switch r.Intn(5) {
		case 0:
			w.Despawn(one)
		case 1:
			w.Add(one, somePart(r, kinds, kind))
		case 2:
			w.Remove(one, kind)
		default:
			w.Set(one, somePart(r, kinds, kind))
		}
	}
	return w
}

// grownWorlds are worlds of which each was made of one ahead of it, or of another line.
func grownWorlds(t testing.TB, r *rand.Rand, kinds []api.Kind, count int) []*world.World {
	worlds := []*world.World{fresh(t, kinds)}
	if r.Intn(3) == 0 {
		worlds[0] = loaded(t, kinds, pool(gens(api.MaxGen, api.MaxGen+1, api.MaxGen-1, 300), 3, 2), r0(someParts(r, kinds)))
	}
	for len(worlds) < count {
		worlds = append(worlds, grow(r, worlds[max(0, len(worlds)-1-r.Intn(3))]))
	}
	return worlds
}

func r0(parts []api.Part) api.Row { return r(0, api.MaxGen, parts...) }

// turn does one thing to a delta, after which it may have the form or not, and fit a world or not.
func (m model) turn(r *rand.Rand, kinds []api.Kind) model {
	m = m.clone()
	if len(m.entries) == 0 || r.Intn(8) == 0 {
		m.entries = append(m.entries, entry{e: e(r.Intn(5), 1+r.Intn(3)), what: 1 + r.Intn(3), to: someParts(r, kinds)})
		if m.entries[len(m.entries)-1].what == 1 {
			m.entries[len(m.entries)-1] = isGone(m.entries[len(m.entries)-1].e, someParts(r, kinds)...)
		}
		if r.Intn(3) > 0 {
			slices.SortFunc(m.entries, func(a, b entry) int { return (a.e.Index-b.e.Index)*10000000 + a.e.Gen - b.e.Gen })
		}
		return m
	}
	at := r.Intn(len(m.entries))
	x := &m.entries[at]
	switch r.Intn(10) {
	case 0:
		m.entries = slices.Delete(m.entries, at, at+1)
	case 1:
		x.e.Gen += r.Intn(3) - 1
	case 2:
		x.e.Index += r.Intn(3) - 1
	case 3:
		x.what = 1 + (x.what+r.Intn(2))%3
		x.from, x.to = x.to, x.from
	case 4:
		x.to = x.turned(r, kinds, x.to)
	case 5:
		x.from = x.turned(r, kinds, x.from)
	case 6:
		x.from, x.to = x.turned(r, kinds, x.from), x.turned(r, kinds, x.to)
	case 7:
		row := &m.rows[r.Intn(4)]
		if len(*row) == 0 || r.Intn(4) == 0 {
			*row = append(*row, int64(r.Intn(4)))
		} else {
			(*row)[r.Intn(len(*row))] += int64(r.Intn(3) - 1)
		}
	case 8:
		i, k := r.Intn(4), r.Intn(4)
		m.rows[i], m.rows[k] = m.rows[k], m.rows[i]
	case 9:
		other := r.Intn(len(m.entries))
		m.entries[at], m.entries[other] = m.entries[other], m.entries[at]
	}
	return m
}

// turned does something to parts of an entry: one is there no more, comes, or has other values.
func (x entry) turned(r *rand.Rand, kinds []api.Kind, parts []api.Part) []api.Part {
	kind := 1 + r.Intn(len(kinds))
	left := slices.DeleteFunc(slices.Clone(parts), func(part api.Part) bool { return part.Kind == kind })
	if r.Intn(3) > 0 {
		left = append(left, somePart(r, kinds, kind))
	}
	slices.SortFunc(left, func(a, b api.Part) int { return a.Kind - b.Kind })
	return left
}

// spoil does something to bytes.
func spoil(r *rand.Rand, b []byte) []byte {
	b = slices.Clone(b)
	at := r.Intn(len(b))
	switch r.Intn(5) {
	case 0:
		b[at] ^= 1 << r.Intn(8)
	case 1:
		b[at] = byte(r.Intn(16))
	case 2:
		b = slices.Insert(b, at, byte(r.Intn(256)))
	case 3:
		b = slices.Delete(b, at, at+1)
	case 4:
		b = b[:at]
	}
	return b
}

// wantSeen: all these were seen so often.
func wantSeen(t *testing.T, seen map[string]int, least int, names ...string) {
	t.Helper()
	for _, name := range names {
		if seen[name] < least {
			t.Errorf("the test's own deltas: %s only %d times: %v", name, seen[name], seen)
		}
	}
}

// TestModelOfWorlds: E1 to E3, deltas of worlds, and those turned and spoilt, against the model.
func TestModelOfWorlds(t *testing.T) {
	seen := map[string]int{}
	for seed := range 400 {
		r := rand.New(rand.NewSource(int64(seed)))
		kinds := someKinds(r)
		worlds := grownWorlds(t, r, kinds, 6)
		for _, a := range worlds {
			b := worlds[r.Intn(len(worlds))]
			m := model{}.between(a, b)
			d := diff(t, a, b)
			wantBytes(t, "E1: by the model", d, m.bytes())
			compareChanges(t, kinds, d, seen)
			compareApply(t, a, d, seen)
			compareApply(t, worlds[r.Intn(len(worlds))], d, seen)
			for range 6 {
				turned := m.turn(r, kinds)
				if r.Intn(4) == 0 {
					turned = turned.turn(r, kinds)
				}
				compareChanges(t, kinds, turned.bytes(), seen)
				compareApply(t, a, turned.bytes(), seen)
				spoilt := spoil(r, d)
				compareChanges(t, kinds, spoilt, seen)
				compareApply(t, a, spoilt, seen)
			}
		}
		if t.Failed() {
			t.Fatalf("of the seed %d", seed)
		}
	}
	wantSeen(t, seen, 500, "changes: right", "changes: fault", "apply: yes", "apply: no")
}

// someDelta is one that has the form, of few entities, whatever worlds there are.
func someDelta(r *rand.Rand, kinds []api.Kind, from, to [2][]int64) model {
	m := model{rows: [4][]int64{from[0], from[1], to[0], to[1]}}
	for _, who := range someEntities() {
		switch r.Intn(6) {
		case 0:
			m.entries = append(m.entries, isGone(who, someParts(r, kinds)...))
		case 1:
			m.entries = append(m.entries, isNew(who, someParts(r, kinds)...))
		case 2, 3:
			if x, something := apart(who, someParts(r, kinds), someParts(r, kinds)); something {
				m.entries = append(m.entries, x)
			}
		}
	}
	return m
}

func someEntities() []api.Entity {
	return []api.Entity{e(0, 1), e(0, 2), e(7, 999999), e(7, 1000000), e(198, 1), e(199, 127), e(199, 128), e(199, 1000000)}
}

// next is a delta that goes on behind another one, mostly.
func (m model) next(r *rand.Rand, kinds []api.Kind, to [2][]int64) model {
	n := someDelta(r, kinds, [2][]int64{m.rows[2], m.rows[3]}, to)
	n.entries = slices.DeleteFunc(n.entries, func(x entry) bool {
		return slices.ContainsFunc(m.entries, func(other entry) bool { return other.e == x.e })
	})
	for _, x := range m.entries {
		if r.Intn(5) == 0 {
			continue
		}
		all := slices.DeleteFunc(someParts(r, kinds), func(part api.Part) bool { return slices.Contains(touched(x), part.Kind) })
		if x.what == 2 {
			all = nil
		}
		all = slices.SortedFunc(slices.Values(slices.Concat(all, x.to)), func(a, b api.Part) int { return a.Kind - b.Kind })
		if r.Intn(12) == 0 {
			all = x.turned(r, kinds, all)
		}
		is := someParts(r, kinds)
		if r.Intn(3) == 0 {
			is = cloneParts(x.from)
		}
		switch after, something := apart(x.e, all, is); {
		case x.what == 1 && r.Intn(20) > 0:
			n.entries = append(n.entries, isNew(x.e, is...))
		case r.Intn(2) == 0:
			n.entries = append(n.entries, isGone(x.e, all...))
		case something:
			n.entries = append(n.entries, after)
		}
		if r.Intn(60) == 0 {
			n.entries = append(n.entries[:max(0, len(n.entries)-1)], isNew(x.e, x.to...))
		}
	}
	n.entries = slices.SortedFunc(slices.Values(n.entries), func(a, b entry) int { return (a.e.Index-b.e.Index)*10000000 + a.e.Gen - b.e.Gen })
	return n
}

// TestModelOfJoins: E3 and E4, deltas that have the form, of no worlds, that go on behind one another or not, against the model.
func TestModelOfJoins(t *testing.T) {
	seen := map[string]int{}
	pools := [][2][]int64{{nil, nil}, {gens(1, 1), nil}, {gens(1, 1), gens(0)}, {gens(-3, 1<<50), gens(7, 7)}}
	for seed := range 3000 {
		r := rand.New(rand.NewSource(int64(seed)))
		kinds := someKinds(r)
		somePool := func() [2][]int64 { return pools[r.Intn(len(pools))] }
		d := someDelta(r, kinds, somePool(), somePool())
		n := d.next(r, kinds, somePool())
		compareChanges(t, kinds, d.bytes(), seen)
		compareChanges(t, kinds, n.bytes(), seen)
		compareJoin(t, kinds, d.bytes(), n.bytes(), seen)
		compareJoin(t, kinds, n.bytes(), d.bytes(), seen)
		compareJoin(t, kinds, d.bytes(), n.turn(r, kinds).bytes(), seen)
		compareJoin(t, kinds, d.turn(r, kinds).bytes(), n.bytes(), seen)
		compareJoin(t, kinds, spoil(r, d.bytes()), n.bytes(), seen)
		compareJoin(t, kinds, d.bytes(), spoil(r, n.bytes()), seen)
		if t.Failed() {
			t.Fatalf("of the seed %d", seed)
		}
	}
	names := []string{"join: yes", "join: no", "join: other rows", "changes: right"}
	for _, whats := range []string{"1 then 2", "3 then 3"} {
		names = append(names, "join: "+whats+": fits true, something true", "join: "+whats+": fits true, something false")
	}
	for _, whats := range []string{"2 then 3", "3 then 1"} {
		names = append(names, "join: "+whats+": fits true, something true")
	}
	names = append(names, "join: 2 then 1: fits true, something false")
	for _, whats := range []string{"1 then 1", "1 then 3", "2 then 1", "2 then 2", "2 then 3", "3 then 1", "3 then 2", "3 then 3"} {
		names = append(names, "join: "+whats+": fits false, something false")
	}
	wantSeen(t, seen, 20, names...)
}

// FuzzBytes: P1 of DOC.md, and E2 to E4, any bytes, against the model.
func FuzzBytes(f *testing.F) {
	for _, pair := range pairs(f) {
		f.Add(uint8(1), pair.d, pair.d)
	}
	f.Add(uint8(0), []byte{0, 0, 1, 0, 2, 0, 1, 0, 1, 2, 2, 14}, []byte{1, 0, 2, 0, 1, 0, 2, 0, 1, 0, 1, 3, 2, 6, 14, 16})
	f.Add(uint8(2), []byte{}, []byte{255})
	f.Fuzz(func(t *testing.T, which uint8, d, next []byte) {
		kinds := [][]api.Kind{two(), three(), twelve()}[which%3]
		seen := map[string]int{}
		compareChanges(t, kinds, d, seen)
		compareJoin(t, kinds, d, next, seen)
		compareJoin(t, kinds, next, d, seen)
		worlds := []*world.World{fresh(t, kinds), loaded(t, kinds, pool(gens(1)), r(0, 1))}
		if w, bad := delta.Apply(worlds[0], d); bad == api.OK {
			worlds = append(worlds, w)
		}
		for _, w := range worlds {
			compareApply(t, w, d, seen)
			compareApply(t, w, next, seen)
		}
	})
}

// FuzzWorlds: P10 of DOC.md, and E1 to E4, any worlds, there and back and joined, against the model.
func FuzzWorlds(f *testing.F) {
	for seed := range 8 {
		f.Add(int64(seed), seed)
	}
	f.Fuzz(func(t *testing.T, seed int64, count int) {
		r := rand.New(rand.NewSource(seed))
		kinds := someKinds(r)
		worlds := grownWorlds(t, r, kinds, 3+(count%8+8)%8)
		seen := map[string]int{}
		for i := range worlds[2:] {
			a, b, c := worlds[i], worlds[i+1], worlds[i+2]
			m := model{}.between(a, b)
			wantBytes(t, "E1: by the model", diff(t, a, b), m.bytes())
			compareApply(t, a, diff(t, a, b), seen)
			compareApply(t, b, diff(t, a, b), seen)
			compareApply(t, a, m.turn(r, kinds).bytes(), seen)
			compareJoin(t, kinds, diff(t, a, b), m.turn(r, kinds).bytes(), seen)
			wantJoin(t, kinds, diff(t, a, b), diff(t, b, c), diff(t, a, c))
			wantJoin(t, kinds, diff(t, b, a), diff(t, a, c), diff(t, b, c))
		}
	})
}
