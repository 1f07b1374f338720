package branch

import (
	"hindcast/api"
	"hindcast/history"
)

// branch is one of a tree's.
type branch struct {
	history *history.History
	parent  int
	frame   int       // of the parent, at which it began
	meets   rows[int] // of each branch that began ahead of it, and is there: up to which frame the two are one
}

// origin gives a branch, if another one may begin at that frame of it (N3).
func (t *Tree) origin(b, f int) (*branch, api.Errno) {
	x, ok := t.branches.find(b)
	switch {
	case !ok:
		return nil, api.ErrBranch
	case f < 0 || f > x.history.Len():
		return nil, api.ErrFrame
	case len(t.branches.numbers) == api.MaxBranches:
		return nil, api.ErrFull
	}
	return x, api.OK
}

// begin adds a branch with these frames, which began at that frame of another one, and gives its number.
func (t *Tree) begin(h *history.History, parent, f int) int {
	number := t.next
	t.next++
	t.branches.add(number, &branch{h, parent, f, t.meetsFrom(parent, f)})
	return number
}

// meetsFrom tells up to which frame each branch is one with a branch that begins now, at that frame of another one. Who began where changes no more, so it is told once: then nothing of those that are dropped need be kept.
func (t *Tree) meetsFrom(parent, f int) rows[int] {
	var meets rows[int]
	for _, number := range t.branches.numbers {
		m, _ := t.Meet(parent, number)
		meets.add(number, min(m, f))
	}
	return meets
}

// replayed gives another history, with its frames up to f and then those behind f with other inputs, as long as there are both (N4).
func (x *branch) replayed(f int, inputs [][]api.Input) *history.History {
	h, _ := x.history.Cut(f)
	for i := range min(len(inputs), x.history.Len()-f) {
		tick, picks, _ := x.history.Tick(f + 1 + i)
		tick.Inputs = inputs[i]
		h.Record(tick, picks) // nothing fails: all but the inputs was taken here once
	}
	return h
}

func tooMany(inputs []api.Input) bool { return len(inputs) > api.MaxInputs }
