package history_test

import (
	"fmt"
	"math/rand"
	"testing"

	"hindcast/api"
	"hindcast/history"
)

// still is a history of a game in which nothing happens, of so many frames that nobody asks anything for: its frames cost little.
func still(t testing.TB, every, back, frames int) *history.History {
	t.Helper()
	h := newHistory(t, game(t, ""), every, back)
	for range frames {
		if _, bad := h.Record(api.Tick{}, nil); bad != api.OK {
			t.Fatalf("H2: %v", bad)
		}
	}
	return h
}

// TestAllWaysLeadToOneWorld: what follows of H1 to H7: each way of up to four steps, from each frame, leads to the world of its frame.
func TestAllWaysLeadToOneWorld(t *testing.T) {
	const frames = 5
	all := worlds(t, frames)
	h, m := recorded(t, 2, 3, frames), newModel(game(t, lively), 2, 3)
	for f := 1; f <= frames; f++ {
		m.record(tickOf(f), picksOf(f))
	}
	count := 0
	var further func(from int, steps []api.Step)
	further = func(from int, steps []api.Step) {
		count++
		h.Seek(from)
		to := m.end(from, steps)
		if w, at, bad := h.Go(steps); bad != api.OK || at != to || string(w.Snapshot()) != all[to] {
			t.Fatalf("H5: Go(%v) from %d: %d, %v, want %d, and its world", steps, from, at, bad, to)
		}
		if len(steps) == 4 {
			return
		}
		for _, step := range m.steps(to) {
			further(from, append(steps[:len(steps):len(steps)], step))
		}
	}
	for from := range frames + 1 {
		further(from, nil)
	}
	if count < 2000 {
		t.Errorf("the test's own ways are %d", count)
	}
}

// TestLongWalks: what follows of H1 to H7: one way of very many steps leads to the world of its frame, and so does each of its steps.
func TestLongWalks(t *testing.T) {
	const frames = 16
	all := worlds(t, frames)
	for seed := range 6 {
		r := rand.New(rand.NewSource(int64(seed)))
		every, back := 1+r.Intn(6), 1+r.Intn(frames)
		h, m := recorded(t, every, back, frames), newModel(game(t, lively), every, back)
		for f := 1; f <= frames; f++ {
			m.record(tickOf(f), picksOf(f))
		}
		var steps []api.Step
		for range 300 {
			good := m.steps(m.at)
			step := good[r.Intn(len(good))]
			if r.Intn(8) > 0 {
				step = good[len(good)-1-r.Intn(min(2, len(good)))]
			}
			steps = append(steps, step)
			m.at = step.Frame
		}
		other := cut(t, h, frames)
		for _, step := range steps {
			wantGo(t, h, way(step), step.Frame, all[step.Frame])
		}
		wantGo(t, other, steps, m.at, all[m.at])
	}
}

// TestSeekCostsLittle: what follows of H4 (and P9 of DOC.md): a seek costs at most one load, and fewer plays and undos than every.
func TestSeekCostsLittle(t *testing.T) {
	for _, every := range []int{1, 2, 3, 5, 7} {
		for _, back := range []int{0, 1, 2, 4, 9, 20} {
			for _, frames := range []int{0, 1, 6, 7, 10, 13} {
				h, m := still(t, every, back, frames), newModel(game(t, ""), every, back)
				for range frames {
					m.record(api.Tick{}, nil)
				}
				for from := range frames + 1 {
					for to := range frames + 1 {
						h.Seek(from)
						m.at = from
						_, got, bad := h.Seek(to)
						if want, _ := m.seek(to); bad != api.OK || got != want {
							t.Fatalf("H4: every %d, back %d, %d frames: from %d to %d: %v, %v, want %v", every, back, frames, from, to, got, bad, want)
						}
						if got.Loads > 1 || got.Undos+got.Plays >= every {
							t.Fatalf("H4: every %d, back %d, %d frames: from %d to %d: %v is too much", every, back, frames, from, to, got)
						}
					}
				}
			}
		}
	}
}

// TestCutAndRecordedAgain: what follows of H7: a history that was cut off, and to which the frames behind are recorded again, answers as one of which nothing else was asked.
func TestCutAndRecordedAgain(t *testing.T) {
	const frames = 10
	asks := func(h *history.History) string {
		text := told(h)
		for _, f := range []int{9, 8, 3, 10, 7, 6, 1, 2, 5, 4, 0, 10} {
			w, c, bad := h.Seek(f)
			text += fmt.Sprintf("\nseek %d: %x %v %v", f, w.Snapshot(), c, bad)
		}
		for f := range frames + 1 {
			h.Seek(f)
			w, at, bad := h.Go(way(undo(f - 1)))
			text += fmt.Sprintf("\nundo %d: %v %d %v", f, w != nil, at, bad)
			c, bad := h.Cut(f)
			text += fmt.Sprintf("\ncut %d: %s %v", f, told(c), bad)
		}
		report, bad := h.Record(tickOf(77), nil)
		return text + fmt.Sprint(report, bad) + told(h)
	}
	for _, every := range []int{1, 3, 30} {
		for _, back := range []int{0, 1, 4, 30} {
			want := asks(recorded(t, every, back, frames))
			for f := range frames + 1 {
				h := recorded(t, every, back, frames)
				h.Seek(f * 7 % (frames + 1))
				c := cut(t, h, f)
				c.Seek(f / 2)
				for k := f + 1; k <= frames; k++ {
					tick, picks, _ := h.Tick(k)
					if _, bad := c.Record(tick, picks); bad != api.OK {
						t.Fatalf("H7: frame %d, recorded again behind %d: %v", k, f, bad)
					}
				}
				c.Seek(frames)
				if got := asks(c); got != want {
					t.Fatalf("H7: every %d, back %d, cut off at %d and recorded again: %s, want %s", every, back, f, got, want)
				}
			}
		}
	}
}
