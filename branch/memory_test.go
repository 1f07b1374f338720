package branch_test

import (
	"fmt"
	"slices"
	"sync"
	"testing"

	"hindcast/api"
	"hindcast/branch"
	"hindcast/world"
)

// junk stands in the room behind lists, and must stay there.
const junk = -77

// fill writes into a list, and into the room behind it.
func fill[T any](list []T, with T) {
	list = list[:cap(list)]
	for i := range list {
		list[i] = with
	}
}

// roomy gives a list with room behind it, and junk in that.
func roomy[T any](list []T, junk T) []T {
	return append(slices.Clone(list), junk, junk, junk)[:len(list)]
}

// whole gives a list with the room behind it.
func whole[T any](list []T) []T { return list[:cap(list)] }

func junkInput() api.Input { return api.Input{Player: junk, Key: junk, Value: junk} }

// spoilTick writes into all lists of a tick.
func spoilTick(tick api.Tick) {
	for _, ask := range tick.Asks {
		for _, part := range ask.Parts {
			fill(part.Values, junk)
		}
		fill(ask.Parts, p(junk))
		fill(ask.Values, junk)
	}
	fill(tick.Asks, api.Command{Op: junk})
	fill(tick.Inputs, junkInput())
}

// spoilWorld does all there is to a world.
func spoilWorld(w *world.World) {
	for i, row := range w.Rows() {
		for _, part := range row.Parts {
			fill(part.Values, junk)
			if i%3 == 0 {
				w.Set(row.E, part)
			} else {
				w.Remove(row.E, part.Kind)
			}
		}
		if i%3 == 2 {
			w.Despawn(row.E)
		}
	}
	for range 3 {
		w.Spawn(nil)
	}
}

// TestRecordKeepsNothing: P3 of DOC.md, ticks, picks and reports are the caller's, who may write into them.
func TestRecordKeepsNothing(t *testing.T) {
	const frames = 9
	g := game(t, lively)
	b := newTree(t, g, 3, 2)
	for f := 1; f <= frames; f++ {
		tick, picks := with(tickOf(f), roomy(tickOf(f).Inputs, junkInput())), roomy(picksOf(f), junk)
		was := fmt.Sprint(tick, picks, whole(tick.Inputs), whole(picks))
		report, bad := b.Record(0, tick, picks)
		if is := fmt.Sprint(tick, picks, whole(tick.Inputs), whole(picks)); bad != api.OK || is != was {
			t.Fatalf("P3: what Record was given is written into: %s, %v, want %s", is, bad, was)
		}
		spoilTick(tick)
		fill(picks, junk)
		fill(report.Events, api.Event{System: junk})
		fill(report.Failed, api.Event{System: junk})
		fill(report.Spawned, e(junk, junk))
	}
	lists := slices.Repeat([][]api.Input{nil}, frames)
	wantReplace(t, b, 0, 0, lists, 1)
	ticks := ticksOf(from(1, frames)...)
	wantWorlds(t, "of ticks that were spoilt", b, 0, fold(t, g, ticks))
	for i := range ticks {
		ticks[i].Inputs = nil
	}
	wantWorlds(t, "replayed of ticks that were spoilt", b, 1, fold(t, g, ticks))
}

// TestReplaceKeepsNothing: P3 of DOC.md, the lists of inputs stay as they are, with the room behind them, and are the caller's; one list may stand at several places.
func TestReplaceKeepsNothing(t *testing.T) {
	const frames = 7
	g := game(t, lively)
	b := grown(t, 3, 2, frames)
	one := roomy(says(70), junkInput())
	inputs := roomy([][]api.Input{one, roomy(says(71), junkInput()), one, one, roomy(says(72), junkInput())}, one)
	text := func() string {
		text := fmt.Sprint(whole(inputs))
		for _, list := range whole(inputs) {
			text += fmt.Sprint(whole(list))
		}
		return text
	}
	was := text()
	wantReplace(t, b, 0, 3, inputs, 1)
	if _, bad := b.Replace(0, 3, append(inputs[:5:5], make([]api.Input, 33))); bad != api.ErrArg {
		t.Fatalf("N4: too many inputs: %v", bad)
	}
	if is := text(); is != was {
		t.Fatalf("P3: what Replace was given is written into: %s, want %s", is, was)
	}
	for _, list := range inputs {
		fill(list, junkInput())
	}
	fill(inputs, nil)
	wantReplace(t, b, 1, 5, [][]api.Input{says(80), says(81)}, 2)
	wantFork(t, b, 1, 6, 3)
	ticks := append(ticksOf(1, 2, 3), with(tickOf(4), says(70)), with(tickOf(5), says(71)), with(tickOf(6), says(70)), with(tickOf(7), says(70)))
	wantWorlds(t, "of inputs that were spoilt", b, 1, fold(t, g, ticks))
	wantWorlds(t, "of inputs that were spoilt", b, 3, fold(t, g, ticks[:6]))
	wantWorlds(t, "of inputs that were spoilt", b, 2, fold(t, g, append(ticks[:5:5], with(tickOf(6), says(80)), with(tickOf(7), says(81)))))
	wantWorlds(t, "of which one was replaced", b, 0, fold(t, g, ticksOf(from(1, frames)...)))
}

// TestAnswersAreNewMemory: P3 of DOC.md, what is written into worlds and numbers, and behind these, stands nowhere else, in no branch.
func TestAnswersAreNewMemory(t *testing.T) {
	const frames = 8
	g := game(t, lively)
	all := fold(t, g, ticksOf(from(1, frames)...))
	for _, back := range []int{0, 3, 20} {
		b := grown(t, 3, back, frames)
		wantFork(t, b, 0, frames, 1)
		wantFork(t, b, 1, frames-1, 2)
		for f := frames; f >= 0; f-- {
			for n := range 3 {
				for range 2 {
					if w, _, bad := b.Seek(n, f); bad == api.OK {
						spoilWorld(w)
					}
				}
				fill(b.All(), junk)
			}
		}
		wantAll(t, b, 0, 1, 2)
		wantDrop(t, b, 2, api.OK)
		fill(b.All(), junk)
		wantAll(t, b, 0, 1)
		wantFork(t, b, 0, 1, 3)
		wantAll(t, b, 0, 1, 3)
		wantWorlds(t, "beside worlds that were spoilt", b, 0, all)
		wantWorlds(t, "beside worlds that were spoilt", b, 1, all)
		wantWorlds(t, "beside worlds that were spoilt", b, 3, all[:2])
	}
}

// TestTreesOfOneGame: P4 of DOC.md, trees have nothing to do with one another, and a game may be shared.
func TestTreesOfOneGame(t *testing.T) {
	g := game(t, lively)
	one, other := newTree(t, g, 3, 2), newTree(t, g, 2, 5)
	record(t, one, 0, from(1, 6)...)
	record(t, other, 0, from(11, 19)...)
	wantFork(t, one, 0, 5, 1)
	wantFork(t, one, 1, 5, 2)
	wantDrop(t, one, 1, api.OK)
	wantAll(t, other, 0)
	wantFork(t, other, 0, 2, 1)
	wantWorlds(t, "beside another tree", one, 0, fold(t, g, ticksOf(from(1, 6)...)))
	wantWorlds(t, "beside another tree", other, 0, fold(t, g, ticksOf(from(11, 19)...)))
	wantWorlds(t, "beside another tree", one, 2, fold(t, g, ticksOf(from(1, 5)...)))
	wantWorlds(t, "beside another tree", other, 1, fold(t, g, ticksOf(11, 12)))
}

// TestSideBySide: P4 of DOC.md, trees of one game may be used at a time, each by one.
func TestSideBySide(t *testing.T) {
	const frames = 10
	g := game(t, lively)
	all := fold(t, g, ticksOf(from(1, frames)...))
	var group sync.WaitGroup
	for worker := range 8 {
		b, _ := branch.New(g, 1+worker%4, worker)
		group.Go(func() {
			for f := 1; f <= frames; f++ {
				b.Record(0, tickOf(f), picksOf(f))
			}
			for i := range 15 {
				n, _ := b.Fork(0, (worker+i)%frames)
				b.Replace(n, 0, [][]api.Input{says(5)})
				last, _ := b.Len(n)
				w, _, bad := b.Seek(n, last)
				if bad != api.OK || string(w.Snapshot()) != all[last] {
					t.Errorf("P4: the frame %d is another one beside others, %v", last, bad)
				}
				b.Drop(n)
				b.Drop(n + 1)
			}
		})
	}
	group.Wait()
}

// TestErrnos: P5 of DOC.md, what does not go answers a number, which is an error.
func TestErrnos(t *testing.T) {
	b := grown(t, 3, 2, 4)
	_, noArg := branch.New(nil, 3, 2)
	_, noFrame := b.Fork(0, 5)
	for want, err := range map[string]error{"hindcast: error 1": noArg, "hindcast: error 2": b.Drop(0), "hindcast: error 210": noFrame, "hindcast: error 220": b.Drop(1)} {
		if err.Error() != want {
			t.Errorf("P5: %v, want %s", err, want)
		}
	}
}

// TestAgain: P4 of DOC.md, the same calls are answered alike, each time.
func TestAgain(t *testing.T) {
	run := func() string {
		b := grown(t, 3, 4, 8)
		b.Fork(0, 6)
		b.Replace(1, 2, [][]api.Input{says(1), nil, says(2)})
		b.Fork(2, 4)
		b.Drop(1)
		text := told(b, 4)
		for _, n := range b.All() {
			for _, f := range []int{3, 0, 5, 4, 1, 2} {
				w, c, bad := b.Seek(n, f)
				if bad == api.OK {
					text += fmt.Sprintf("%x", w.Snapshot())
				}
				text += fmt.Sprint(c, bad)
			}
		}
		return text
	}
	want := run()
	for range 5 {
		if got := run(); got != want {
			t.Fatalf("P4: the same calls are answered otherwise: %s, want %s", got, want)
		}
	}
}
