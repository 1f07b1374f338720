package delta

import (
	"cmp"
	"slices"

	"hindcast/api"
)

// What a change is, as it is written: a bit for who lives in the world from which it leads, a bit for who lives in that to which it leads.
const (
	lived = 1
	lives = 2

	gone    = lived
	born    = lives
	changed = lived | lives
)

// change is what becomes of an entity: its parts in the two worlds, by rising kinds; of one that lives in both those of the touched kinds alone.
type change struct {
	e        api.Entity
	what     int
	from, to []api.Part
}

// becoming is the change of an entity that has these parts in the two worlds: those that stay as they are do not count.
func becoming(e api.Entity, from, to []api.Part) change {
	return change{e: e, what: changed, from: unlike(from, to), to: unlike(to, from)}
}

// isNothing tells whether there is no change at all.
func (c change) isNothing() bool {
	return c.what == 0 || c.what == changed && len(c.from) == 0 && len(c.to) == 0
}

// touches tells whether what becomes of a part of this kind is said: of one that does not live in both worlds, all is.
func (c change) touches(kind int) bool {
	return c.what != changed || find(c.from, kind) != nil || find(c.to, kind) != nil
}

// plain is the change as it is told to people.
func (c change) plain() api.Change {
	p := api.Change{E: c.e, Gone: c.what == gone, New: c.what == born, Parts: c.to}
	if c.what != changed {
		return p
	}
	for _, part := range c.from {
		if find(c.to, part.Kind) == nil {
			p.Lost = append(p.Lost, part.Kind)
		}
	}
	return p
}

// between gives the changes from the rows of one world to those of another one.
func between(a, b []api.Row) []change {
	left := partsOf(a)
	var changes []change
	for _, row := range b {
		c := change{e: row.E, what: born, to: row.Parts}
		if parts, both := left[row.E]; both {
			c = becoming(row.E, parts, row.Parts)
			delete(left, row.E)
		}
		if !c.isNothing() {
			changes = append(changes, c)
		}
	}
	for e, parts := range left {
		changes = append(changes, change{e: e, what: gone, from: parts})
	}
	slices.SortFunc(changes, byEntities)
	return changes
}

// joinedAll makes one list of changes of two, the second behind the first; false, if the second does not begin where the first ends.
func joinedAll(first, second []change) ([]change, bool) {
	left := map[api.Entity]change{}
	for _, c := range first {
		left[c.e] = c
	}
	var changes []change
	for _, c := range second {
		if ahead, both := left[c.e]; both {
			if !ahead.leadsTo(c) {
				return nil, false
			}
			c = joined(ahead, c)
			delete(left, c.e)
		}
		if !c.isNothing() {
			changes = append(changes, c)
		}
	}
	for _, c := range left {
		changes = append(changes, c)
	}
	slices.SortFunc(changes, byEntities)
	return changes, true
}

// leadsTo tells whether the entity, behind this change, is as the next one says that it was.
func (c change) leadsTo(next change) bool {
	if (c.what&lives != 0) != (next.what&lived != 0) {
		return false
	}
	for kind := 1; kind <= api.MaxKinds; kind++ {
		if c.touches(kind) && next.touches(kind) && !sameOf(kind, c.to, next.from) {
			return false
		}
	}
	return true
}

// joined makes one change of two of an entity, of which the first leads to the second.
func joined(first, second change) change {
	from := first.laidOver(second.from, first.from)
	to := second.laidOver(first.to, second.to)
	what := first.what&lived | second.what&lives
	if what == changed {
		return becoming(first.e, from, to)
	}
	return change{e: first.e, what: what, from: from, to: to}
}

// laidOver gives parts, but of the kinds that the change touches those of its own.
func (c change) laidOver(parts, own []api.Part) []api.Part {
	all := slices.Clone(own)
	for _, part := range parts {
		if !c.touches(part.Kind) {
			all = append(all, part)
		}
	}
	slices.SortFunc(all, func(a, b api.Part) int { return cmp.Compare(a.Kind, b.Kind) })
	return all
}

// byEntities orders changes by rising Index, of one Index by rising Gen; no two have the same entity.
func byEntities(a, b change) int { return compareEntities(a.e, b.e) }

func compareEntities(a, b api.Entity) int {
	return cmp.Or(cmp.Compare(a.Index, b.Index), cmp.Compare(a.Gen, b.Gen))
}
