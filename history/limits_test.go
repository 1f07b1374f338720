package history_test

import (
	"fmt"
	"runtime"
	"slices"
	"testing"

	"hindcast/api"
	"hindcast/history"
)

// TestFull: H2, there are at most 5000 frames; ErrFull comes ahead of what is wrong with a tick or picks.
func TestFull(t *testing.T) {
	h := still(t, 1000, 3, api.MaxFrames-1)
	full := cut(t, h, api.MaxFrames-1)
	if _, bad := full.Record(api.Tick{Seed: 5}, nil); bad != api.OK || full.Len() != 5000 {
		t.Fatalf("H2: the frame 5000: %v", bad)
	}
	for _, f := range []int{5000, 17} {
		full.Seek(f)
		for _, tick := range []api.Tick{{}, {Asks: make([]api.Command, api.MaxAsks+1)}} {
			for _, picks := range [][]int{nil, {3}} {
				report, bad := full.Record(tick, picks)
				if bad != api.ErrFull || fmt.Sprint(report) != fmt.Sprint(api.Report{}) || full.Len() != 5000 {
					t.Errorf("H2: a frame more than may be: %v, %v", report, bad)
				}
			}
		}
		if _, at := full.Now(); at != f {
			t.Errorf("H2: behind a frame more than may be one is at %d, want %d", at, f)
		}
	}
	if fmt.Sprint(full.Keys()) != "[0 1000 2000 3000 4000 5000]" {
		t.Errorf("H6: the keys are %v", full.Keys())
	}
	if c := cut(t, full, 5000); c.Len() != 5000 {
		t.Errorf("H7: Cut(5000) has %d frames", c.Len())
	} else if _, bad := c.Record(api.Tick{}, nil); bad != api.ErrFull {
		t.Errorf("H7: Cut(5000) takes a frame more: %v", bad)
	}
	if _, bad := h.Record(api.Tick{}, nil); bad != api.OK {
		t.Errorf("H7: the frame 5000, behind a Cut that has one: %v", bad)
	}
}

// TestMostOfAll: H4 to H7, as many frames, keys and undos as may be.
func TestMostOfAll(t *testing.T) {
	const most = api.MaxFrames
	var back, on []api.Step
	for f := most - 1; f >= 0; f-- {
		back = append(back, undo(f))
	}
	for f := 1; f <= most; f++ {
		on = append(on, play(f))
	}
	g := game(t, "system Grow writes Pos { Pos.x = Pos.x + tick; }")
	for _, every := range []int{1, most} {
		h := newHistory(t, g, every, most)
		h.Record(api.Tick{Asks: []api.Command{spawn(p(1, 0, 0))}}, nil)
		for range most - 1 {
			h.Record(api.Tick{}, nil)
		}
		if len(h.Keys()) != most/every+1 || h.Keys()[most/every] != most {
			t.Fatalf("H6: every %d: %d keys", every, len(h.Keys()))
		}
		for _, row := range []struct {
			f     int
			steps []api.Step
		}{{0, back}, {most, on}} {
			w, at, bad := h.Go(row.steps)
			if bad != api.OK || at != row.f {
				t.Fatalf("H5: %d steps to %d: %d, %v", most, row.f, at, bad)
			}
			if rows := fmt.Sprint(w.Rows()); rows != map[int]string{0: "[]", most: "[{{0 1} [{1 [12502500 0]}]}]"}[row.f] {
				t.Errorf("H5: %d steps to %d: %s", most, row.f, rows)
			}
		}
		_, got, _ := h.Seek(most / 2)
		if want := map[int]api.Cost{1: cost(1, 0, 0), most: cost(0, most/2, 0)}[every]; got != want {
			t.Errorf("H4: every %d: %v, want %v", every, got, want)
		}
		c := cut(t, h, most-1)
		if w, at, bad := c.Go(back[1:]); bad != api.OK || at != 0 || len(w.Rows()) != 0 {
			t.Errorf("H7: all is undone in what was cut off: %d, %v", at, bad)
		}
	}
}

// crowded is a history of as many as may live, all of whom change in each frame.
func crowded(t testing.TB, every, back, frames int) *history.History {
	t.Helper()
	h := newHistory(t, game(t, "system Grow writes Pos { Pos.x = Pos.x * 3 + tick; Pos.y = Pos.y + me; }"), every, back)
	crowd := slices.Repeat([]api.Command{spawn(p(1, 1, 1))}, api.MaxEntities)
	for f := range frames {
		tick := api.Tick{}
		if f == 0 {
			tick.Asks = crowd
		}
		if _, bad := h.Record(tick, nil); bad != api.OK {
			t.Fatalf("H2: %v", bad)
		}
	}
	return h
}

// allocated tells how many bytes a call takes, in all.
func allocated(call func()) uint64 {
	var was, is runtime.MemStats
	runtime.ReadMemStats(&was)
	call()
	runtime.ReadMemStats(&is)
	return is.TotalAlloc - was.TotalAlloc
}

// TestCostsAreTrue: H4, what a seek takes grows with the plays and undos that it tells, not with how many frames there are; and so it is with the next frame, and with a cut.
func TestCostsAreTrue(t *testing.T) {
	h := crowded(t, 100, 1, 399)
	seek := func(from, to int, want api.Cost) uint64 {
		h.Seek(from)
		return allocated(func() {
			if _, got, bad := h.Seek(to); bad != api.OK || got != want {
				t.Fatalf("H4: Seek(%d) from %d: %v, %v, want %v", to, from, got, bad, want)
			}
		})
	}
	h.Seek(399)
	ends := allocated(func() { h.Cut(399) })
	far := seek(0, 299, cost(1, 0, 99)) / 20
	for what, took := range map[string]uint64{
		"a load":                 seek(0, 300, cost(1, 0, 0)),
		"a play":                 seek(250, 251, cost(0, 0, 1)),
		"an undo":                seek(399, 398, cost(0, 1, 0)),
		"a load and a play":      seek(0, 301, cost(1, 0, 1)),
		"nothing":                seek(299, 299, cost(0, 0, 0)),
		"a step that is refused": allocated(func() { h.Go(way(play(7))) }),
		"a cut at the end":       ends,
		"a frame from elsewhere": allocated(func() { h.Record(api.Tick{}, nil) }),
	} {
		if took > far {
			t.Errorf("H4: %s takes %d bytes, 99 plays take %d", what, took, far*20)
		}
	}
}

// held tells how many bytes are held by what a call makes.
func held(make func() *history.History) (*history.History, int64) {
	var was, is runtime.MemStats
	runtime.GC()
	runtime.ReadMemStats(&was)
	h := make()
	runtime.GC()
	runtime.ReadMemStats(&is)
	return h, int64(is.HeapAlloc) - int64(was.HeapAlloc)
}

// TestKeepsLittle: no more is kept than the promises need: undos that are too old, and what stands behind a cut, are let go.
func TestKeepsLittle(t *testing.T) {
	const frames = 600
	some, all := func() *history.History { return crowded(t, api.MaxFrames, 2, frames) }, func() *history.History { return crowded(t, api.MaxFrames, frames, frames) }
	few, little := held(some)
	many, much := held(all)
	if little > much/4 {
		t.Errorf("H4: with two frames that can be undone a history holds %d bytes, with all %d", little, much)
	}
	short, least := held(func() *history.History {
		c, _ := crowded(t, 1, frames, frames).Cut(3)
		return c
	})
	if least > much/4 {
		t.Errorf("H7: what was cut off at 3 holds %d bytes, all %d", least, much)
	}
	runtime.KeepAlive(few)
	runtime.KeepAlive(many)
	runtime.KeepAlive(short)
}

// TestGreatTicks: H2 and H6, ticks of as many inputs and asks as may be, with very long lists.
func TestGreatTicks(t *testing.T) {
	h := newHistory(t, game(t, lively), 2, 2)
	long := make([]int64, 20000)
	for i := range long {
		long[i] = int64(i)
	}
	tick := api.Tick{
		Inputs: slices.Repeat([]api.Input{{Player: 1, Key: 2, Value: 3}}, api.MaxInputs),
		Asks:   slices.Repeat([]api.Command{{Op: api.OpAdd, E: e(0, 1), Kind: 1, Values: long}}, api.MaxAsks),
	}
	for range 4 {
		report, bad := h.Record(tick, nil)
		if bad != api.OK || report.Refused != api.MaxAsks {
			t.Fatalf("H2: a great tick: %d, %v", report.Refused, bad)
		}
	}
	got, _, bad := h.Tick(3)
	if bad != api.OK || len(got.Inputs) != api.MaxInputs || len(got.Asks) != api.MaxAsks {
		t.Fatalf("H6: a great tick: %d, %d, %v", len(got.Inputs), len(got.Asks), bad)
	}
	for _, ask := range got.Asks {
		if !slices.Equal(ask.Values, long) {
			t.Fatalf("H6: a great tick has other values")
		}
	}
}
