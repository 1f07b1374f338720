package machine

import (
	"cmp"
	"slices"

	"hindcast/api"
)

// part is one that the entity has: its values as they are now, and what the system declared of its kind.
type part struct {
	values        []int64
	read, written bool
}

// button is what an input is asked by.
type button struct {
	player, key int64
}

// partsFor copies the first part of each kind (those behind it do not count), and marks those of kinds that the system declared.
func partsFor(s api.System, row []api.Part) map[int64]*part {
	parts := map[int64]*part{}
	for _, p := range row {
		if parts[int64(p.Kind)] == nil {
			parts[int64(p.Kind)] = &part{values: slices.Clone(p.Values)}
		}
	}
	for _, kind := range s.Reads {
		if p := parts[int64(kind)]; p != nil {
			p.read = true
		}
	}
	for _, kind := range s.Writes {
		if p := parts[int64(kind)]; p != nil {
			p.read, p.written = true, true
		}
	}
	return parts
}

// partsOf gives those parts of these kinds that the entity has, by rising kinds, each once.
func (r *run) partsOf(kinds []int) []api.Part {
	var list []api.Part
	for _, kind := range slices.Compact(slices.Sorted(slices.Values(kinds))) {
		if p := r.parts[int64(kind)]; p != nil {
			list = append(list, api.Part{Kind: kind, Values: p.values})
		}
	}
	return list
}

func (r *run) mayRead(a int64) bool {
	p := r.parts[a/8]
	return p != nil && p.read && a >= 0 && a%8 < int64(len(p.values))
}

func (r *run) mayWrite(a int64) bool { return r.mayRead(a) && r.parts[a/8].written }

// value is where the value stands that an instruction speaks of.
func (r *run) value(a int64) *int64 { return &r.parts[a/8].values[a%8] }

// input is what a player said last under a key. The list is gone through but once, by the first ask.
func (r *run) input(player, key int64) int64 {
	if r.inputs == nil {
		r.inputs = map[button]int64{}
		for _, input := range r.env.Inputs {
			r.inputs[button{int64(input.Player), int64(input.Key)}] = input.Value
		}
	}
	return r.inputs[button{player, key}]
}

func (r *run) isKind(a int64) bool { return a >= 1 && a <= api.MaxKinds }

// isKindOfPart asks of an A of a kind and a count. (One below 0 has no kind: it would be 0 or less.)
func (r *run) isKindOfPart(a int64) bool { return r.isKind(a / 8) }

func (r *run) mayKeep(a int64) bool { return r.isKindOfPart(a) && len(r.kept) < api.MaxKinds }

func (r *run) hasAllCommands() bool { return len(r.commands) == api.MaxOut }

func (r *run) hasAllEvents() bool { return len(r.events) == api.MaxOut }

func (r *run) emit(_ int64, taken []int64) {
	r.events = append(r.events, api.Event{System: r.system, E: r.env.Row.E, Code: taken[0], Value: taken[1]})
}

func (r *run) keep(a int64, taken []int64) {
	r.kept = append(r.kept, api.Part{Kind: int(a / 8), Values: slices.Clone(taken)})
}

func (r *run) spawn(int64, []int64) {
	slices.SortStableFunc(r.kept, func(a, b api.Part) int { return cmp.Compare(a.Kind, b.Kind) })
	r.commands = append(r.commands, api.Command{Op: api.OpSpawn, Parts: r.kept})
	r.kept = nil
}

func (r *run) give(a int64, taken []int64) {
	r.commands = append(r.commands, api.Command{Op: api.OpAdd, E: r.env.Row.E, Kind: int(a / 8), Values: slices.Clone(taken)})
}

func (r *run) takeAway(a int64, _ []int64) {
	r.commands = append(r.commands, api.Command{Op: api.OpRemove, E: r.env.Row.E, Kind: int(a)})
}

func (r *run) die(int64, []int64) {
	r.commands = append(r.commands, api.Command{Op: api.OpDespawn, E: r.env.Row.E})
}
