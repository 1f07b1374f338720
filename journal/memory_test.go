package journal_test

import (
	"bytes"
	"fmt"
	"slices"
	"sync"
	"testing"

	"hindcast/api"
	"hindcast/frame"
	"hindcast/journal"
	"hindcast/store"
)

// junk stands in the room behind lists, and must stay there.
const junk = -77

// fill writes into a list, and into the room behind it.
func fill[T any](list []T, with T) {
	list = list[:cap(list)]
	for i := range list {
		list[i] = with
	}
}

// roomy gives a list with room behind it, and junk in that.
func roomy[T any](list []T, junk T) []T {
	return append(slices.Clone(list), junk, junk, junk)[:len(list)]
}

// whole gives a list with the room behind it.
func whole[T any](list []T) []T { return list[:cap(list)] }

func junkPart() api.Part { return api.Part{Kind: junk, Values: []int64{junk}} }

func junkCommand() api.Command {
	return api.Command{Op: junk, E: e(junk, junk), Kind: junk, Values: []int64{junk}, Parts: []api.Part{junkPart()}}
}

func roomyTick(tick api.Tick) api.Tick {
	tick.Inputs = roomy(tick.Inputs, api.Input{Player: junk, Key: junk, Value: junk})
	tick.Asks = roomy(tick.Asks, junkCommand())
	for i, ask := range tick.Asks {
		ask.Values = roomy(ask.Values, junk)
		ask.Parts = roomy(ask.Parts, junkPart())
		for k, part := range ask.Parts {
			ask.Parts[k].Values = roomy(part.Values, junk)
		}
		tick.Asks[i] = ask
	}
	return tick
}

// tickTold writes a tick with the room behind all lists.
func tickTold(tick api.Tick) string {
	text := fmt.Sprint(tick.Seed, whole(tick.Inputs))
	for _, ask := range whole(tick.Asks) {
		text += fmt.Sprint(ask.Op, ask.E, ask.Kind, whole(ask.Values))
		for _, part := range whole(ask.Parts) {
			text += fmt.Sprint(part.Kind, whole(part.Values))
		}
	}
	return text
}

func spoilTick(tick api.Tick) {
	for _, ask := range tick.Asks {
		for _, part := range ask.Parts {
			fill(part.Values, junk)
		}
		fill(ask.Parts, junkPart())
		fill(ask.Values, junk)
	}
	fill(tick.Asks, junkCommand())
	fill(tick.Inputs, api.Input{Player: junk, Key: junk, Value: junk})
}

func spoilReport(report api.Report) {
	fill(report.Events, api.Event{System: junk})
	fill(report.Failed, api.Event{System: junk})
	fill(report.Spawned, e(junk, junk))
}

// spoilHistory writes into all that the history of a journal gives.
func spoilHistory(j *journal.Journal) {
	h := j.History()
	for f := h.Len(); f >= 0; f-- {
		w, _, _ := h.Seek(f)
		for _, row := range w.Rows() {
			w.Despawn(row.E)
		}
		w.Spawn(nil)
		if f > 0 {
			tick, picks, _ := h.Tick(f)
			spoilTick(tick)
			fill(picks, junk)
		}
	}
	fill(h.Keys(), junk)
}

// TestRecordKeepsNothing: P3 of DOC.md, ticks, picks and reports are the caller's, who may write into them: neither the history nor the store shows it, nor what comes up of that.
func TestRecordKeepsNothing(t *testing.T) {
	const frames = 9
	g, s := game(t, lively), storeOf(t, nil)
	j := create(t, g, s, 3)
	for f := 1; f <= frames; f++ {
		tick, picks := roomyTick(tickOf(f)), roomy(picksOf(f), junk)
		was, wasPicks := tickTold(tick), fmt.Sprint(whole(picks))
		report, bad := j.Record(tick, picks)
		if bad != api.OK || tickTold(tick) != was || fmt.Sprint(whole(picks)) != wasPicks {
			t.Fatalf("P3: what Record was given is written into, %v: %s, want %s", bad, tickTold(tick), was)
		}
		spoilTick(tick)
		fill(picks, junk)
		spoilReport(report)
		spoilHistory(j)
		fill(s.Bytes(), 0)
	}
	all := fold(t, g, frames)
	wantFrames(t, "P3: of ticks that were spoilt", j, all)
	wantFrames(t, "P3: of ticks that were spoilt", open(t, g, s), all)
	_, same := grown(t, 3, frames, frames)
	j.Sync()
	if told(s) != told(same) {
		t.Errorf("P3: of ticks that were spoilt the store has %s, want %s", told(s), told(same))
	}
}

// TestRefusedKeepsNothing: P3 of DOC.md, what is refused is not written into either.
func TestRefusedKeepsNothing(t *testing.T) {
	j, s := grown(t, 3, 2, 2)
	long := roomyTick(tickOf(3))
	long.Asks[0].Values = roomy(make([]int64, 100001), junk)
	for _, c := range []struct {
		tick  api.Tick
		picks []int
		want  api.Errno
	}{{roomyTick(tickOf(3)), roomy([]int{5}, junk), api.ErrPick}, {long, roomy([]int{1, 0, 0}, junk), api.ErrRecord}, {roomyTick(tickOf(3)), roomy([]int{1, 0, 0}, junk), api.ErrDead}} {
		if c.want == api.ErrDead {
			s.Fuse(4)
		}
		was, wasPicks := tickTold(c.tick), fmt.Sprint(whole(c.picks))
		if _, bad := j.Record(c.tick, c.picks); bad != c.want || tickTold(c.tick) != was || fmt.Sprint(whole(c.picks)) != wasPicks {
			t.Errorf("P3: what Record was given is written into, or %v, want %v", bad, c.want)
		}
	}
}

// TestHistoriesAreApart: P3 of DOC.md, what is written into what one journal's history gives shows in no other journal, also of one store.
func TestHistoriesAreApart(t *testing.T) {
	const frames = 7
	g := game(t, lively)
	all := fold(t, g, frames)
	j, s := grown(t, 3, frames, frames)
	k := open(t, g, s)
	spoilHistory(j)
	wantFrames(t, "P3: beside a journal that was spoilt", k, all)
	k.History().Seek(2)
	if _, at := j.History().Now(); at != 0 {
		t.Errorf("P4: a Seek in one journal's history moves another one to %d", at)
	}
	wantFrames(t, "P3: itself", j, all)
}

// TestJournalsOfOneGame: P4 of DOC.md, journals on stores of their own have nothing to do with one another, and a game may be shared.
func TestJournalsOfOneGame(t *testing.T) {
	g := game(t, lively)
	all := fold(t, g, 9)
	one, other := storeOf(t, nil), storeOf(t, nil)
	j, k := create(t, g, one, 3), create(t, g, other, 5)
	record(t, j, 1, 6)
	record(t, k, 1, 9)
	j.Sync()
	other.Crash(10, nil)
	other.Restart()
	if bad := k.Sync(); bad != api.ErrDead {
		t.Errorf("J4: behind a crash: %v", bad)
	}
	record(t, j, 7, 9)
	wantFrames(t, "P4: beside another journal", j, all)
	wantFrames(t, "P4: beside another journal", k, all)
}

// TestSideBySide: P4 of DOC.md, journals of one game may be used at a time, each by one.
func TestSideBySide(t *testing.T) {
	const frames = 12
	g := game(t, lively)
	all := fold(t, g, frames)
	var group sync.WaitGroup
	for worker := range 8 {
		s := storeOf(t, nil)
		j := create(t, g, s, 1+worker%4)
		group.Go(func() {
			crashed := false
			for j.History().Len() < frames {
				f := j.History().Len() + 1
				if !crashed && f == 4+worker%5 {
					crashed = true
					s.Crash(20*worker, []byte{byte(worker)})
					s.Restart()
				}
				if _, bad := j.Record(tickOf(f), picksOf(f)); bad == api.ErrDead {
					j, bad = journal.Open(g, s)
					if bad != api.OK {
						t.Errorf("J2: %v", bad)
						return
					}
				}
			}
			j.Sync()
			if w, at := j.History().Now(); at != frames || string(w.Snapshot()) != all[frames] {
				t.Errorf("P4: the frame %d is another one beside others", at)
			}
		})
	}
	group.Wait()
}

// TestErrnos: P5 of DOC.md, what does not go answers a number, which is an error.
func TestErrnos(t *testing.T) {
	j, s := grown(t, 3, 1, 2)
	_, noGame := journal.Open(nil, s)
	_, bytes := journal.Create(game(t, lively), s, 3)
	_, long := j.Record(tooLong(), nil)
	_, other := journal.Open(game(t, ""), s)
	s.Crash(0, nil)
	for want, err := range map[string]error{"hindcast: error 1": noGame, "hindcast: error 2": bytes, "hindcast: error 20": long, "hindcast: error 30": j.Sync(), "hindcast: error 230": other} {
		if err.Error() != want {
			t.Errorf("P5: %v, want %s", err, want)
		}
	}
}

// TestAgain: P4 of DOC.md, the same calls are answered alike, each time.
func TestAgain(t *testing.T) {
	g := game(t, lively)
	run := func() string {
		j, s := grown(t, 3, 4, 8)
		s.Crash(100, []byte{1, 2, 3})
		s.Restart()
		k := open(t, g, s)
		report, bad := k.Record(tickOf(9), nil)
		return fmt.Sprint(told(s), j.Lasts(), k.Lasts(), report, bad) + way(k.History())
	}
	want := run()
	for range 5 {
		if got := run(); got != want {
			t.Fatalf("P4: the same calls are answered otherwise: %s, want %s", got, want)
		}
	}
}

// TestGamesThatAreAlike: J2, a journal may be opened with a game that was made anew, whatever the lists were that it was made of.
func TestGamesThatAreAlike(t *testing.T) {
	_, s := grown(t, 3, 3, 3)
	g := game(t, lively)
	program := g.Program()
	for i := range program.Systems {
		x := &program.Systems[i]
		for _, set := range []*[]int{&x.With, &x.Without, &x.Reads, &x.Writes} {
			if len(*set) == 0 {
				*set = []int{}
			}
			*set = roomy(*set, junk)
		}
	}
	kinds := three()
	kinds[1].Fields = []string{}
	other, bad := frame.New(kinds, program)
	if bad != api.OK {
		t.Fatalf("the test's own game: %v", bad)
	}
	wantFrames(t, "J2: of a game that is alike", open(t, other, s), fold(t, g, 3))
	z := storeOf(t, nil)
	create(t, other, z, 3)
	if !bytes.HasPrefix(s.Bytes(), z.Bytes()) {
		t.Errorf("J1: a game that is alike has other bytes")
	}
	wantFrames(t, "J2: of a game that is alike", open(t, g, z), fold(t, g, 0))
}

// TestStoreIsKept: P3 of DOC.md, the store that a journal is made on is kept, and no other one: what stood in the bytes that it was made of does not matter.
func TestStoreIsKept(t *testing.T) {
	_, s := grown(t, 3, 3, 3)
	b := s.Bytes()
	z, _ := store.New(b)
	g := game(t, lively)
	j := open(t, g, z)
	fill(b, 0)
	record(t, j, 4, 5)
	wantFrames(t, "P3", open(t, g, z), fold(t, g, 5))
	if _, bad := journal.Open(g, s); bad != api.OK {
		t.Errorf("P4: another store is another one: %v", bad)
	}
}
