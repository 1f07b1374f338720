package history

import (
	"hindcast/api"
	"hindcast/delta"
	"hindcast/world"
)

// walker goes about in a history, in which one stays meanwhile where one is.
type walker struct {
	in    *History
	at    int
	world *world.World
}

func (h *History) walker() *walker { return &walker{h, h.at, h.now} }

// walk goes a way, as far as it goes, and tells whether that is all of it (H5).
func (w *walker) walk(way []api.Step) bool {
	for _, s := range way {
		step := w.step(s.Op)
		if step == nil || !step(s.Frame) {
			return false
		}
	}
	return true
}

// step gives what does a step to a frame, if it goes, and tells whether it does; nil, if there is no such step.
func (w *walker) step(op int) func(f int) bool {
	switch op {
	case api.StepLoad:
		return w.load
	case api.StepUndo:
		return w.undo
	case api.StepPlay:
		return w.play
	}
	return nil
}

func (w *walker) load(f int) bool {
	h := w.in
	if f < 0 || f > h.Len() || f%h.every != 0 {
		return false
	}
	w.world, _ = world.Load(h.game.Kinds(), h.keys[f/h.every])
	w.at = f
	return true
}

func (w *walker) undo(f int) bool {
	h := w.in
	if f != w.at-1 || !h.canUndo(w.at) {
		return false
	}
	w.world, _ = delta.Apply(w.world, h.frames[w.at-1].undo)
	w.at = f
	return true
}

func (w *walker) play(f int) bool {
	h := w.in
	if f != w.at+1 || f > h.Len() {
		return false
	}
	k := h.frames[f-1]
	w.world, _, _ = h.game.Step(w.world, f, k.tick, k.picks)
	w.at = f
	return true
}

// playUndos plays the frames that can be undone in a history that was cut off here, but can't here, and puts their undos there.
func (w *walker) playUndos(c *History) {
	first, last := max(c.Len()-c.back, 0)+1, min(c.Len(), w.in.Len()-c.back)
	if first > last {
		return
	}
	w.walk(w.in.wayTo(first-1, w.at))
	for f := first; f <= last; f++ {
		ahead := w.world
		w.play(f)
		c.frames[f-1].undo = undoOf(w.world, ahead)
	}
}
