package history

import (
	"slices"

	"hindcast/api"
	"hindcast/delta"
	"hindcast/world"
)

// kept is what is kept of a frame.
type kept struct {
	tick  api.Tick
	picks []int
	undo  []byte // the delta to the frame ahead, if the frame can be undone
}

// add puts a frame behind the last one, and lets the undo go that was the first till then.
func (h *History) add(k kept, w *world.World) {
	h.frames = append(h.frames, k)
	f := h.Len()
	if h.canUndo(f) {
		h.frames[f-1].undo = undoOf(w, h.last)
	}
	if old := f - h.back; old > 0 {
		h.frames[old-1].undo = nil
	}
	if f%h.every == 0 {
		h.keys = append(h.keys, w.Snapshot())
	}
	h.last, h.now, h.at = w, w, f
}

// canUndo tells whether a frame up to the last one can be undone; then those behind it can, too.
func (h *History) canUndo(f int) bool { return f > 0 && f > h.Len()-h.back }

// undoOf gives the delta from a frame's world to that of the frame ahead. (Both are of one game, so there is one.)
func undoOf(w, ahead *world.World) []byte {
	undo, _ := delta.Diff(w, ahead)
	return undo
}

// cloneTick makes a tick like it that shares no list with it.
func cloneTick(t api.Tick) api.Tick {
	t.Inputs = slices.Clone(t.Inputs)
	t.Asks = slices.Clone(t.Asks)
	for i, ask := range t.Asks {
		t.Asks[i].Values = slices.Clone(ask.Values)
		t.Asks[i].Parts = slices.Clone(ask.Parts)
		for k, part := range ask.Parts {
			t.Asks[i].Parts[k].Values = slices.Clone(part.Values)
		}
	}
	return t
}
