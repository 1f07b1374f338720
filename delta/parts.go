package delta

import (
	"slices"

	"hindcast/api"
	"hindcast/pack"
)

// partsOf gives the parts of each that lives.
func partsOf(rows []api.Row) map[api.Entity][]api.Part {
	parts := map[api.Entity][]api.Part{}
	for _, row := range rows {
		parts[row.E] = row.Parts
	}
	return parts
}

// find gives the part of a kind, nil, if there is none.
func find(parts []api.Part, kind int) *api.Part {
	for i := range parts {
		if parts[i].Kind == kind {
			return &parts[i]
		}
	}
	return nil
}

// sameOf tells whether a kind is in neither of two lists, or in both with the same values.
func sameOf(kind int, a, b []api.Part) bool {
	one, other := find(a, kind), find(b, kind)
	if one == nil || other == nil {
		return one == other
	}
	return slices.Equal(one.Values, other.Values)
}

// unlike leaves those parts that are not the same among others.
func unlike(parts, others []api.Part) []api.Part {
	var left []api.Part
	for _, part := range parts {
		if !sameOf(part.Kind, parts, others) {
			left = append(left, part)
		}
	}
	return left
}

// setOf gives the set of the parts' kinds.
func setOf(parts []api.Part) uint64 {
	set := uint64(0)
	for _, part := range parts {
		set |= 1 << part.Kind
	}
	return set
}

// putValues adds the values of parts.
func putValues(b []byte, parts []api.Part) []byte {
	for _, part := range parts {
		for _, x := range part.Values {
			b = pack.PutInt(b, x)
		}
	}
	return b
}
