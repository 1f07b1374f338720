package history

import (
	"slices"

	"hindcast/api"
)

// route is one of the ways of which the default way is taken: perhaps a load, and then undos or plays alone.
type route struct {
	loads    bool
	from, to int // from: where one is behind the load, or without one
}

// wayTo gives the default way to a frame, for one who is at another one (H4).
func (h *History) wayTo(f, at int) []api.Step {
	key := f - f%h.every
	routes := slices.DeleteFunc([]route{{false, at, f}, {true, key, f}, {true, key + h.every, f}}, h.lacks)
	best := slices.MinFunc(routes, func(a, b route) int { return a.distance() - b.distance() }) // the first of those that are as short
	return best.steps()
}

// lacks tells whether there is no such key, or an undo of these is not there.
func (h *History) lacks(r route) bool {
	return r.from > h.Len() || r.from > r.to && !h.canUndo(r.to+1)
}

// distance tells how many undos or plays there are.
func (r route) distance() int { return max(r.from-r.to, r.to-r.from) }

func (r route) steps() []api.Step {
	var way []api.Step
	if r.loads {
		way = append(way, api.Step{Op: api.StepLoad, Frame: r.from})
	}
	for f := r.from - 1; f >= r.to; f-- {
		way = append(way, api.Step{Op: api.StepUndo, Frame: f})
	}
	for f := r.from + 1; f <= r.to; f++ {
		way = append(way, api.Step{Op: api.StepPlay, Frame: f})
	}
	return way
}

// costOf counts the steps of a way.
func costOf(way []api.Step) api.Cost {
	var c api.Cost
	for _, s := range way {
		switch s.Op {
		case api.StepLoad:
			c.Loads++
		case api.StepUndo:
			c.Undos++
		case api.StepPlay:
			c.Plays++
		}
	}
	return c
}
