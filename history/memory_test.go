package history_test

import (
	"fmt"
	"slices"
	"sync"
	"testing"

	"hindcast/api"
	"hindcast/history"
	"hindcast/world"
)

// junk stands in the room behind lists, and must stay there.
const junk = -77

// fill writes into a list, and into the room behind it.
func fill[T any](list []T, with T) {
	list = list[:cap(list)]
	for i := range list {
		list[i] = with
	}
}

// roomy gives a list with room behind it, and junk in that.
func roomy[T any](list []T, junk T) []T {
	return append(slices.Clone(list), junk, junk, junk)[:len(list)]
}

// whole gives a list with the room behind it.
func whole[T any](list []T) []T { return list[:cap(list)] }

func junkPart() api.Part { return api.Part{Kind: junk, Values: []int64{junk}} }

func junkCommand() api.Command {
	return api.Command{Op: junk, E: e(junk, junk), Kind: junk, Values: []int64{junk}, Parts: []api.Part{junkPart()}}
}

func roomyTick(tick api.Tick) api.Tick {
	tick.Inputs = roomy(tick.Inputs, api.Input{Player: junk, Key: junk, Value: junk})
	tick.Asks = roomy(tick.Asks, junkCommand())
	for i, ask := range tick.Asks {
		ask.Values = roomy(ask.Values, junk)
		ask.Parts = roomy(ask.Parts, junkPart())
		for k, part := range ask.Parts {
			ask.Parts[k].Values = roomy(part.Values, junk)
		}
		tick.Asks[i] = ask
	}
	return tick
}

// tickTold writes a tick with the room behind all lists.
func tickTold(tick api.Tick) string {
	text := fmt.Sprint(tick.Seed, whole(tick.Inputs))
	for _, ask := range whole(tick.Asks) {
		text += fmt.Sprint(ask.Op, ask.E, ask.Kind, whole(ask.Values))
		for _, part := range whole(ask.Parts) {
			text += fmt.Sprint(part.Kind, whole(part.Values))
		}
	}
	return text
}

func spoilTick(tick api.Tick) {
	for _, ask := range tick.Asks {
		for _, part := range ask.Parts {
			fill(part.Values, junk)
		}
		fill(ask.Parts, junkPart())
		fill(ask.Values, junk)
	}
	fill(tick.Asks, junkCommand())
	fill(tick.Inputs, api.Input{Player: junk, Key: junk, Value: junk})
}

func spoilReport(report api.Report) {
	fill(report.Events, api.Event{System: junk})
	fill(report.Failed, api.Event{System: junk})
	fill(report.Spawned, e(junk, junk))
}

// spoilWorld does all there is to a world.
func spoilWorld(w *world.World) {
	for i, row := range w.Rows() {
		for _, part := range row.Parts {
			fill(part.Values, junk)
			if i%3 == 0 {
				w.Set(row.E, part)
			} else {
				w.Remove(row.E, part.Kind)
			}
		}
		if i%3 == 2 {
			w.Despawn(row.E)
		}
	}
	for range 3 {
		w.Spawn(nil)
	}
}

// wantFrames holds all frames against their worlds, ticks and picks, by all ways that there are.
func wantFrames(t testing.TB, what string, h *history.History, all []string) {
	t.Helper()
	for f := h.Len(); f >= 0; f-- {
		if w, _, bad := h.Seek(f); bad != api.OK || string(w.Snapshot()) != all[f] {
			t.Fatalf("P3: %s: the world of frame %d is another one, %v", what, f, bad)
		}
		if f == 0 {
			continue
		}
		if tick, picks, _ := h.Tick(f); fmt.Sprint(tick) != fmt.Sprint(tickOf(f)) || fmt.Sprint(picks) != fmt.Sprint(picksOf(f)) {
			t.Fatalf("P3: %s: the tick of frame %d is %v, %v, want %v, %v", what, f, tick, picks, tickOf(f), picksOf(f))
		}
	}
	h.Go(way(load(0)))
	for f := 1; f <= h.Len(); f++ {
		if w, _, bad := h.Go(way(play(f))); bad != api.OK || string(w.Snapshot()) != all[f] {
			t.Fatalf("P3: %s: the world of frame %d, played, is another one, %v", what, f, bad)
		}
	}
	for f := h.Len() - 1; f >= 0; f-- {
		w, _, bad := h.Go(way(undo(f)))
		if bad != api.OK {
			break
		}
		if string(w.Snapshot()) != all[f] {
			t.Fatalf("P3: %s: the world of frame %d, undone, is another one", what, f)
		}
	}
	for _, f := range h.Keys() {
		if w, _, bad := h.Go(way(load(f))); bad != api.OK || string(w.Snapshot()) != all[f] {
			t.Fatalf("P3: %s: the world of frame %d, loaded, is another one, %v", what, f, bad)
		}
	}
}

// TestWritesIntoNothing: P3 of DOC.md, ticks, picks and ways stay as they are, with the room behind their lists; nothing of them is kept.
func TestWritesIntoNothing(t *testing.T) {
	const frames = 12
	all := worlds(t, frames)
	h := newHistory(t, game(t, lively), 5, 4)
	for f := 1; f <= frames; f++ {
		tick, picks := roomyTick(tickOf(f)), roomy(picksOf(f), junk)
		was, wasPicks := tickTold(tick), fmt.Sprint(whole(picks))
		if _, bad := h.Record(tick, picks); bad != api.OK {
			t.Fatalf("H2: frame %d: %v", f, bad)
		}
		if tickTold(tick) != was || fmt.Sprint(whole(picks)) != wasPicks {
			t.Fatalf("P3: what Record was given is written into: %s, %v", tickTold(tick), whole(picks))
		}
		spoilTick(tick)
		fill(picks, junk)
	}
	steps := roomy(way(load(10), play(11), undo(10), undo(9)), api.Step{Op: junk})
	wasSteps := fmt.Sprint(whole(steps))
	h.Go(steps)
	h.Go(whole(steps))
	if fmt.Sprint(whole(steps)) != wasSteps {
		t.Errorf("P3: what Go was given is written into: %v", whole(steps))
	}
	fill(steps, api.Step{Op: junk})
	wantFrames(t, "behind lists that were spoilt", h, all)
}

// TestRefusedTicksStay: P3 of DOC.md, what is handed in and refused stays as it is, too.
func TestRefusedTicksStay(t *testing.T) {
	h := recorded(t, 3, 2, 4)
	tick, picks := roomyTick(tickOf(5)), roomy([]int{1, 1, 0, 0}, junk)
	was, wasPicks := tickTold(tick), fmt.Sprint(whole(picks))
	if _, bad := h.Record(tick, picks); bad != api.ErrPick {
		t.Fatalf("H2: %v", bad)
	}
	if tickTold(tick) != was || fmt.Sprint(whole(picks)) != wasPicks {
		t.Errorf("P3: what Record refused is written into: %s, %v", tickTold(tick), whole(picks))
	}
}

// TestAnswersAreNewMemory: P3 of DOC.md, what is written into worlds, reports, ticks, picks and keys, and behind their lists, stands nowhere else.
func TestAnswersAreNewMemory(t *testing.T) {
	const frames = 12
	all := worlds(t, frames)
	for _, back := range []int{0, 4, 20} {
		h := newHistory(t, game(t, lively), 5, back)
		for f := 1; f <= frames; f++ {
			report, _ := h.Record(tickOf(f), picksOf(f))
			spoilReport(report)
			w, _ := h.Now()
			spoilWorld(w)
		}
		wantFrames(t, "behind reports and Nows that were spoilt", h, all)
		for _, f := range []int{12, 3, 4, 5, 10, 11, 9, 8, 7, 0, 1, 0, 12} {
			w, _, _ := h.Seek(f)
			spoilWorld(w)
			wantNow(t, "behind a Seek whose world was spoilt", h, f, all[f])
			w, _ = h.Now()
			spoilWorld(w)
			wantNow(t, "behind a Now whose world was spoilt", h, f, all[f])
		}
		wantFrames(t, "behind Seeks that were spoilt", h, all)
		h.Seek(frames)
		for _, steps := range [][]api.Step{nil, way(load(10)), way(load(5)), way(play(6)), way(play(7)), nil, way(load(10)), way(undo(9)), way(undo(8)), way(load(0)), nil} {
			if w, f, bad := h.Go(steps); bad == api.OK {
				spoilWorld(w)
				wantNow(t, "behind a Go whose world was spoilt", h, f, all[f])
			}
		}
		wantFrames(t, "behind Gos that were spoilt", h, all)
		for f := 1; f <= frames; f++ {
			tick, picks, _ := h.Tick(f)
			_ = append(tick.Inputs, api.Input{Key: junk})
			_ = append(tick.Asks, junkCommand())
			spoilTick(tick)
			fill(picks, junk)
		}
		fill(h.Keys(), junk)
		if fmt.Sprint(h.Keys()) != "[0 5 10]" {
			t.Errorf("P3: keys share memory: %v", h.Keys())
		}
		wantFrames(t, "behind ticks and keys that were spoilt", h, all)
	}
}

// TestCutSharesNothing: P3 of DOC.md and H7, what is written into the answers of one of two histories does not show in the other one.
func TestCutSharesNothing(t *testing.T) {
	const frames = 12
	all := worlds(t, frames)
	h := recorded(t, 5, 4, frames)
	for f := range frames + 1 {
		for _, x := range []*history.History{cut(t, h, f), h} {
			for k := range x.Len() + 1 {
				w, _, _ := x.Seek(k)
				spoilWorld(w)
				tick, picks, _ := x.Tick(k)
				spoilTick(tick)
				fill(picks, junk)
				fill(x.Keys(), junk)
			}
			wantFrames(t, "beside another one", x, all)
			wantFrames(t, "beside another one", h, all)
		}
	}
}

// TestOneListAtManyPlaces: P3 of DOC.md, a list may stand at several places of a tick; the answers' lists are apart.
func TestOneListAtManyPlaces(t *testing.T) {
	values := []int64{1, 2}
	parts := []api.Part{{Kind: 1, Values: values}, {Kind: 2, Values: values[:1]}, {Kind: 4, Values: values[1:]}}
	ask := api.Command{Op: api.OpSpawn, Values: values, Parts: parts}
	tick := api.Tick{Asks: []api.Command{ask, ask}}
	h := newHistory(t, game(t, lively), 3, 2)
	if _, bad := h.Record(tick, nil); bad != api.OK {
		t.Fatalf("H2: %v", bad)
	}
	want := fmt.Sprint(tick)
	values[0], values[1], parts[0].Kind = 8, 9, 7
	got, _, _ := h.Tick(1)
	if fmt.Sprint(got) != want {
		t.Fatalf("P3: a tick changes with the lists that it was made of: %v, want %s", got, want)
	}
	lists := func(tick api.Tick) []*[]int64 {
		var all []*[]int64
		for i := range tick.Asks {
			all = append(all, &tick.Asks[i].Values)
			for k := range tick.Asks[i].Parts {
				all = append(all, &tick.Asks[i].Parts[k].Values)
			}
		}
		return all
	}
	for at := range lists(got) {
		one, _, _ := h.Tick(1)
		other, _, _ := h.Tick(1)
		fill(*lists(one)[at], junk)
		*lists(one)[at], *lists(other)[at] = nil, nil
		if fmt.Sprint(one) != fmt.Sprint(other) {
			t.Errorf("P3: two lists of a tick share memory: %v", one)
		}
	}
	one, _, _ := h.Tick(1)
	fill(one.Asks[0].Parts, junkPart())
	if fmt.Sprint(one.Asks[1]) != fmt.Sprint(got.Asks[1]) {
		t.Errorf("P3: two lists of parts share memory: %v", one)
	}
}

// TestGameStays: P3 of DOC.md, a game may be shared by histories and others, and stays as it is.
func TestGameStays(t *testing.T) {
	g := game(t, lively)
	program, kinds := fmt.Sprint(g.Program()), fmt.Sprint(g.Kinds())
	one, other := newHistory(t, g, 3, 2), newHistory(t, g, 2, 5)
	all := worlds(t, 8)
	for range 8 {
		record(t, one, 1)
		record(t, other, 1)
	}
	wantFrames(t, "of a game that is shared", one, all)
	wantFrames(t, "of a game that is shared", other, all)
	if fmt.Sprint(g.Program()) != program || fmt.Sprint(g.Kinds()) != kinds || len(g.Start().Rows()) != 0 {
		t.Errorf("P3: a game changes with its histories")
	}
}

// TestErrnos: P5 of DOC.md, what does not go answers a number, which is an error.
func TestErrnos(t *testing.T) {
	h := recorded(t, 3, 2, 4)
	_, noArg := history.New(nil, 3, 2)
	_, noPick := h.Record(api.Tick{}, []int{1})
	_, _, noFrame := h.Seek(5)
	_, _, noPath := h.Go(way(load(1)))
	for want, err := range map[string]error{"hindcast: error 1": noArg, "hindcast: error 180": noPick, "hindcast: error 210": noFrame, "hindcast: error 211": noPath} {
		if err.Error() != want {
			t.Errorf("P5: %v, want %s", err, want)
		}
	}
}

// TestAgain: P4 of DOC.md, the same calls are answered alike, each time.
func TestAgain(t *testing.T) {
	run := func() string {
		h := recorded(t, 3, 4, 11)
		text := told(h)
		for _, f := range []int{9, 2, 10, 0, 4, 5, 11, 8} {
			w, c, bad := h.Seek(f)
			text += fmt.Sprintf("%x %v %v\n", w.Snapshot(), c, bad)
		}
		c, _ := h.Cut(6)
		record(t, c, 3)
		return text + told(c)
	}
	want := run()
	for range 5 {
		if got := run(); got != want {
			t.Fatalf("P4: the same calls are answered otherwise: %s, want %s", got, want)
		}
	}
}

// TestSideBySide: P4 of DOC.md, histories of one game, and those that were cut off of one, may be used at a time, each by one.
func TestSideBySide(t *testing.T) {
	const frames = 14
	all := worlds(t, frames)
	h := recorded(t, 4, 5, frames)
	h.Seek(9)
	var group sync.WaitGroup
	for worker := range 8 {
		c := cut(t, h, frames-worker)
		group.Go(func() {
			for range 4 {
				for f := c.Len(); f >= 0; f -= 1 + worker%3 {
					w, _, bad := c.Seek(f)
					if bad != api.OK || string(w.Snapshot()) != all[f] {
						t.Errorf("P4: the frame %d is another one beside others, %v", f, bad)
						return
					}
					spoilWorld(w)
					tick, picks, _ := c.Tick(f)
					spoilTick(tick)
					fill(picks, junk)
				}
				if c.Len() < frames {
					n := c.Len() + 1
					c.Record(tickOf(n), picksOf(n))
				}
				d, bad := c.Cut(c.Len() / 2)
				if w, at := d.Now(); bad != api.OK || string(w.Snapshot()) != all[at] {
					t.Errorf("P4: the frame %d is another one beside others, %v", at, bad)
				}
				c.Go(way(load(4), undo(3)))
			}
		})
	}
	for f := frames; f >= 0; f-- {
		w, _, _ := h.Seek(f)
		if string(w.Snapshot()) != all[f] {
			t.Errorf("P4: the frame %d is another one beside others", f)
		}
		spoilWorld(w)
	}
	group.Wait()
}
