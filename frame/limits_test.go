package frame_test

import (
	"fmt"
	"slices"
	"strings"
	"testing"

	"hindcast/api"
	"hindcast/frame"
	"hindcast/world"
)

// crowd is a world of so many, each with Mark; the first of them with Vel, too.
func crowd(t *testing.T, g *frame.Game, count int) *world.World {
	t.Helper()
	w := g.Start()
	for i := range count {
		parts := []api.Part{p(3)}
		if i == 0 {
			parts = append(parts, p(2, 0))
		}
		if _, bad := w.Spawn(parts); bad != api.OK {
			t.Fatalf("the test's own crowd: %v", bad)
		}
	}
	return w
}

// TestMaxEvents: F6, the first 2000 events are told.
func TestMaxEvents(t *testing.T) {
	g := game(t, "system A with Mark { repeat 16 { emit 1, me; } } system B with Vel { emit 2, 1; emit 2, 2; }")
	for _, count := range []int{1, 124, 125, 126, 200} {
		_, report := step(t, g, crowd(t, g, count), 1, api.Tick{})
		var want []api.Event
		for i := range count {
			want = append(want, slices.Repeat([]api.Event{{System: 0, E: e(i, 1), Code: 1, Value: int64(i)}}, 16)...)
		}
		want = append(want, api.Event{System: 1, E: e(0, 1), Code: 2, Value: 1}, api.Event{System: 1, E: e(0, 1), Code: 2, Value: 2})
		want = want[:min(len(want), 2000)]
		if !slices.Equal(report.Events, want) || len(report.Failed) != 0 {
			t.Errorf("F6: of %d: %d events, want %d", count, len(report.Events), len(want))
		}
	}
}

// TestEventsAreCutByTheirOrder: F6, it is the report's order that says which events are the first, not the order in which the systems ran.
func TestEventsAreCutByTheirOrder(t *testing.T) {
	g := game(t, "system A writes Vel { emit 0, 0; } system B reads Vel { emit 1, 1; } system C with Mark { repeat 16 { emit 2, me; } }") // C runs ahead of B
	w := crowd(t, g, 200)
	_, report := step(t, g, w, 1, api.Tick{})
	if len(report.Events) != 2000 || report.Events[0].System != 0 || report.Events[1].System != 1 || report.Events[2] != (api.Event{System: 2, E: e(0, 1), Code: 2}) || report.Events[1999] != (api.Event{System: 2, E: e(124, 1), Code: 2, Value: 124}) {
		t.Errorf("F6: %d events, %v ..", len(report.Events), report.Events[:3])
	}
}

// TestMaxCommands: F6, the first 2000 commands of the systems are done, the others are refused; the asks do not count there.
func TestMaxCommands(t *testing.T) {
	g := game(t, "system A with Mark { repeat 8 { remove Mark; add Mark{}; } } system B with Vel { add Pos{x: 1}; remove Vel; }")
	asked := slices.Repeat([]api.Command{remove(e(0, 1), 1)}, 200)
	for _, row := range []struct {
		count   int
		world   string
		refused int
	}{{1, "0 1 1:1,0 3:", 200}, {124, "0 1 1:1,0 3:", 200}, {125, "0 1 2:0 3:", 202}, {126, "0 1 2:0 3:", 218}, {200, "0 1 2:0 3:", 200 + 75*16 + 2}} {
		next, report := step(t, g, crowd(t, g, row.count), 1, asks(asked...))
		if got, _, _ := strings.Cut(worldTold(next), ";"); got != row.world || report.Refused != row.refused || len(next.Rows()) != row.count {
			t.Errorf("F6: of %d: %s, refused %d; want %s, %d", row.count, got, report.Refused, row.world, row.refused)
		}
	}
	odd := game(t, "system A with Mark { repeat 8 { remove Mark; add Mark{}; } } system B with Mark { remove Mark; }")
	next, report := step(t, odd, crowd(t, odd, 124), 1, api.Tick{}) // 1984 commands, and 124: 16 go
	marks := 0
	for _, row := range next.Rows() {
		if slices.ContainsFunc(row.Parts, func(part api.Part) bool { return part.Kind == 3 }) {
			marks++
		}
	}
	if report.Refused != 108 || marks != 108 {
		t.Errorf("F6: 2108 commands: %d refused, %d marks; want 108", report.Refused, marks)
	}
}

// TestAllFail: F6, all that failed are told, more than 2000, though each took all its steps; by rising systems and numbers.
func TestAllFail(t *testing.T) {
	var text strings.Builder
	for i := range 16 {
		fmt.Fprintf(&text, "system S%d with Mark { emit 1, 1; die; while 1 == 1 { } }\n", i)
	}
	g := game(t, text.String())
	w := crowd(t, g, 200)
	for _, workers := range []int{0, 2, 16} {
		next, report, bad := g.StepWith(w, 1, api.Tick{}, workers)
		if bad != api.OK || len(report.Failed) != 3200 || len(report.Events) != 0 || report.Refused != 0 || string(next.Snapshot()) != string(w.Snapshot()) {
			t.Fatalf("F6: %d failed, %d events, %d refused, %v", len(report.Failed), len(report.Events), report.Refused, bad)
		}
		for i, event := range report.Failed {
			if event != (api.Event{System: i / 200, E: e(i%200, 1), Code: 120, Value: 2001}) {
				t.Fatalf("F6: failed, at %d: %v", i, event)
			}
		}
	}
}

// TestAllSpawn: F6, sixteen systems of two hundred that ask for all they may: where all numbers are given, spawns do not go.
func TestAllSpawn(t *testing.T) {
	var text strings.Builder
	for i := range 16 {
		fmt.Fprintf(&text, "system S%d with Mark { repeat 16 { spawn Pos{x: %d, y: me}, Mark{}; } }\n", i, i)
	}
	g := game(t, text.String())
	for count := range 4 {
		next, report, bad := g.StepWith(crowd(t, g, 50*(count+1)), 1, api.Tick{}, count*5)
		made := 200 - 50*(count+1)
		if bad != api.OK || len(report.Spawned) != made || report.Refused != 50*(count+1)*256-made || len(next.Rows()) != 200 {
			t.Errorf("F6: of %d: %d were made, %d refused, %d live", 50*(count+1), len(report.Spawned), report.Refused, len(next.Rows()))
		}
		for i, who := range report.Spawned {
			if part, bad := next.Get(who, 1); bad != api.OK || part.Values[0] != 0 || part.Values[1] != int64(i/16) || who != e(50*(count+1)+i, 1) {
				t.Fatalf("F6: %v, who was made as the %d-th, has %v, %v", who, i, part, bad)
			}
		}
	}
}

// TestLongLists: P1 of DOC.md, asks with very many parts and values, inputs of all numbers.
func TestLongLists(t *testing.T) {
	g := game(t, "system A with Mark { emit input(9223372036854775807, 0 - 9223372036854775807 - 1), input(0, 0); }")
	parts := slices.Repeat([]api.Part{p(3)}, 100000)
	values := make([]int64, 100000)
	tick := asks(slices.Repeat([]api.Command{spawn(parts...), spawn(p(2, values...)), add(e(0, 1), p(1, values...))}, 10)...)
	tick.Asks = append(tick.Asks, spawn(p(3)), spawn(parts[:1]...))
	tick.Inputs = []api.Input{{Player: 1<<63 - 1, Key: -1 << 63, Value: -1 << 63}, {Value: 1<<63 - 1}}
	wantStep(t, "F4", g, g.Start(), 1, tick, "0 1 3:; 1 1 3:", "event s0 0 1 -9223372036854775808=9223372036854775807, event s0 1 1 -9223372036854775808=9223372036854775807, refused 30, spawned 0 1, spawned 1 1")
}

// TestTwelveKinds: F5, the last of twelve kinds is told from the others, in each set.
func TestTwelveKinds(t *testing.T) {
	kinds := make([]api.Kind, 12)
	for i := range kinds {
		kinds[i] = api.Kind{Name: fmt.Sprint("K", i+1), Fields: []string{"x"}}
	}
	var systems []api.System
	for _, set := range []api.System{{With: []int{12}}, {Without: []int{12}}, {Reads: []int{12}}, {Writes: []int{12}}, {With: []int{1}, Without: []int{11, 12}}} {
		set.Run = routine("me; tick; emit; stop")
		systems = append(systems, set)
	}
	g := newGame(t, kinds, api.Program{Systems: systems})
	wantStep(t, "F5", g, g.Start(), 9, asks(spawn(p(12, 5)), spawn(p(11, 5)), spawn(p(1, 5)), spawn()), "0 1 12:5; 1 1 11:5; 2 1 1:5; 3 1",
		"event s0 0 1 0=9, event s1 1 1 1=9, event s1 2 1 2=9, event s1 3 1 3=9, event s2 0 1 0=9, event s3 0 1 0=9, event s4 2 1 2=9, spawned 0 1, spawned 1 1, spawned 2 1, spawned 3 1")
}
