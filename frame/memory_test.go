package frame_test

import (
	"fmt"
	"math/rand"
	"slices"
	"sync"
	"testing"

	"hindcast/api"
	"hindcast/frame"
	"hindcast/world"
)

// junk stands in the room behind lists, and must stay there.
const junk = -77

// fill writes into a list, and into the room behind it.
func fill[T any](list []T, with T) {
	list = list[:cap(list)]
	for i := range list {
		list[i] = with
	}
}

// roomy gives a list with room behind it, and junk in that.
func roomy[T any](list []T, junk T) []T {
	return append(slices.Clone(list), junk, junk, junk)[:len(list)]
}

// whole gives a list with the room behind it.
func whole[T any](list []T) []T { return list[:cap(list)] }

func junkKind() api.Kind { return api.Kind{Name: "junk", Fields: []string{"junk"}} }

func junkPart() api.Part { return api.Part{Kind: junk, Values: []int64{junk}} }

func junkRoutine() api.Routine {
	return api.Routine{Name: "junk", Params: junk, Locals: junk, Code: []api.Instr{{Op: junk, A: junk}}}
}

func junkSystem() api.System {
	return api.System{With: []int{junk}, Without: []int{junk}, Reads: []int{junk}, Writes: []int{junk}, Run: junkRoutine()}
}

func junkCommand() api.Command {
	return api.Command{Op: junk, E: e(junk, junk), Kind: junk, Values: []int64{junk}, Parts: []api.Part{junkPart()}}
}

func roomyKinds(kinds []api.Kind) []api.Kind {
	kinds = roomy(kinds, junkKind())
	for i, kind := range kinds {
		kinds[i].Fields = roomy(kind.Fields, "junk")
	}
	return kinds
}

func roomyProgram(program api.Program) api.Program {
	program.Systems = roomy(program.Systems, junkSystem())
	for i, s := range program.Systems {
		s.With, s.Without, s.Reads, s.Writes = roomy(s.With, junk), roomy(s.Without, junk), roomy(s.Reads, junk), roomy(s.Writes, junk)
		s.Run.Code = roomy(s.Run.Code, api.Instr{Op: junk, A: junk})
		program.Systems[i] = s
	}
	program.Funcs = roomy(program.Funcs, junkRoutine())
	for i, f := range program.Funcs {
		program.Funcs[i].Code = roomy(f.Code, api.Instr{Op: junk, A: junk})
	}
	return program
}

func roomyTick(tick api.Tick) api.Tick {
	tick.Inputs = roomy(tick.Inputs, api.Input{Player: junk, Key: junk, Value: junk})
	tick.Asks = roomy(tick.Asks, junkCommand())
	for i, ask := range tick.Asks {
		ask.Values = roomy(ask.Values, junk)
		ask.Parts = roomy(ask.Parts, junkPart())
		for k, part := range ask.Parts {
			ask.Parts[k].Values = roomy(part.Values, junk)
		}
		tick.Asks[i] = ask
	}
	return tick
}

// kindsTold, programTold and tickTold write what was handed in, with the room behind all lists.
func kindsTold(kinds []api.Kind) string {
	text := ""
	for _, kind := range whole(kinds) {
		text += kind.Name + fmt.Sprint(whole(kind.Fields))
	}
	return text
}

func programTold(program api.Program) string {
	text := ""
	routine := func(r api.Routine) { text += fmt.Sprint(r.Name, r.Params, r.Locals, whole(r.Code), "\n") }
	for _, s := range whole(program.Systems) {
		text += fmt.Sprint(whole(s.With), whole(s.Without), whole(s.Reads), whole(s.Writes))
		routine(s.Run)
	}
	for _, f := range whole(program.Funcs) {
		routine(f)
	}
	return text
}

func tickTold(tick api.Tick) string {
	text := fmt.Sprint(tick.Seed, whole(tick.Inputs))
	for _, ask := range whole(tick.Asks) {
		text += fmt.Sprint(ask.Op, ask.E, ask.Kind, whole(ask.Values))
		for _, part := range whole(ask.Parts) {
			text += fmt.Sprint(part.Kind, whole(part.Values))
		}
	}
	return text
}

func spoilKinds(kinds []api.Kind) {
	for _, kind := range kinds {
		fill(kind.Fields, "junk")
	}
	fill(kinds, junkKind())
}

func spoilProgram(program api.Program) {
	for _, s := range program.Systems {
		for _, list := range [][]int{s.With, s.Without, s.Reads, s.Writes} {
			fill(list, junk)
		}
		fill(s.Run.Code, api.Instr{Op: junk, A: junk})
	}
	for _, f := range program.Funcs {
		fill(f.Code, api.Instr{Op: junk, A: junk})
	}
	fill(program.Systems, junkSystem())
	fill(program.Funcs, junkRoutine())
}

func spoilTick(tick api.Tick) {
	for _, ask := range tick.Asks {
		for _, part := range ask.Parts {
			fill(part.Values, junk)
		}
		fill(ask.Parts, junkPart())
		fill(ask.Values, junk)
	}
	fill(tick.Asks, junkCommand())
	fill(tick.Inputs, api.Input{Player: junk, Key: junk, Value: junk})
}

func spoilReport(report api.Report) {
	fill(report.Events, api.Event{System: junk})
	fill(report.Failed, api.Event{System: junk})
	fill(report.Spawned, e(junk, junk))
}

// spoilWorld does all there is to a world.
func spoilWorld(w *world.World) {
	for i, row := range w.Rows() {
		for _, part := range row.Parts {
			fill(part.Values, junk)
			if i%3 == 0 {
				w.Set(row.E, part)
			} else {
				w.Remove(row.E, part.Kind)
			}
		}
		if i%3 == 2 {
			w.Despawn(row.E)
		}
	}
	for range 3 {
		w.Spawn(nil)
	}
}

// rolled is a game that is left to chance, a world of it some frames on, and a tick.
func rolled(t testing.TB, seed int) (*rand.Rand, *frame.Game, *world.World, api.Tick) {
	r := rand.New(rand.NewSource(int64(seed)))
	g, _, _ := grown(t, r, 6)
	w := g.Start()
	for number := 1; number <= 3; number++ {
		next, _, bad := g.Step(w, number, someTick(r, g.Kinds()), nil)
		if bad != api.OK {
			t.Fatalf("F3: frame %d: %v", number, bad)
		}
		w = next
	}
	return r, g, w, someTick(r, g.Kinds())
}

// TestNewWritesIntoNothing: P3 of DOC.md, what is handed to New stays as it is, with the room behind its lists; what is changed in it later changes nothing in the game (F1).
func TestNewWritesIntoNothing(t *testing.T) {
	for seed := range 60 {
		_, from, w, tick := rolled(t, seed)
		kinds, program := roomyKinds(from.Kinds()), roomyProgram(from.Program())
		wasKinds, wasProgram := kindsTold(kinds), programTold(program)
		g := newGame(t, kinds, program)
		want := answer(g.Step(w, 4, tick, nil))
		g.Start()
		if kindsTold(kinds) != wasKinds || programTold(program) != wasProgram {
			t.Fatalf("P3: what New was given is written into: %s, %s", kindsTold(kinds), programTold(program))
		}
		spoilKinds(kinds)
		spoilProgram(program)
		if got := answer(g.Step(w, 4, tick, nil)); got != want {
			t.Fatalf("F1: a game changes with the lists that it was made of: %s, want %s", got, want)
		}
		if got := answer(g.StepWith(w, 4, tick, 3)); got != want {
			t.Fatalf("F1: a game changes with the lists that it was made of: %s, want %s", got, want)
		}
		if fmt.Sprint(g.Kinds()) != fmt.Sprint(from.Kinds()) || fmt.Sprint(g.Program()) != fmt.Sprint(from.Program()) || len(g.Start().Rows()) != 0 {
			t.Fatalf("F2: a game changes with the lists that it was made of: %v, %v", g.Kinds(), g.Program())
		}
	}
}

// TestStepWritesIntoNothing: P3 of DOC.md, a tick and picks stay as they are, with the room behind their lists; nothing of them is kept.
func TestStepWritesIntoNothing(t *testing.T) {
	for seed := range 100 {
		r, g, w, tick := rolled(t, seed)
		want := answer(g.Step(w, 4, tick, nil))
		given := roomyTick(tick)
		picks := roomy(somePicks(r, rules{systems: g.Program().Systems}.stages()), junk)
		was, wasPicks := tickTold(given), fmt.Sprint(whole(picks))
		one, first, bad := g.Step(w, 4, given, picks)
		if bad != api.OK {
			one, first, _ = g.Step(w, 4, given, nil)
		}
		other, second, bad := g.StepWith(w, 4, given, 2+seed%15)
		if tickTold(given) != was || fmt.Sprint(whole(picks)) != wasPicks {
			t.Fatalf("P3: what Step was given is written into: %s, %v", tickTold(given), whole(picks))
		}
		spoilTick(given)
		fill(picks, junk)
		if got := answer(one, first, api.OK); got != want {
			t.Fatalf("P3: a world or a report changes with the tick: %s, want %s", got, want)
		}
		if got := answer(other, second, bad); got != want {
			t.Fatalf("P3: a world or a report changes with the tick: %s, want %s", got, want)
		}
	}
}

// TestAnswersAreNewMemory: P3 of DOC.md, what is written into worlds and reports, and behind their lists, stands nowhere else.
func TestAnswersAreNewMemory(t *testing.T) {
	for seed := range 100 {
		_, g, w, tick := rolled(t, seed)
		wasTick, wasWorld := tickTold(tick), string(w.Snapshot())
		kept, keptReport, bad := g.Step(w, 4, tick, nil)
		want := answer(kept, keptReport, bad)
		one, first, _ := g.Step(w, 4, tick, nil)
		other, second, _ := g.StepWith(w, 4, tick, 5)
		for _, report := range []api.Report{first, second} {
			_ = append(report.Events, api.Event{System: junk})
			_ = append(report.Failed, api.Event{System: junk})
			_ = append(report.Spawned, e(junk, junk))
			spoilReport(report)
		}
		if got, also := fmt.Sprintf("%x", one.Snapshot()), fmt.Sprintf("%x", other.Snapshot()); got != also || answer(one, keptReport, api.OK) != want {
			t.Fatalf("P3: a world changes with its report: %s, %s", got, also)
		}
		spoilWorld(one)
		spoilWorld(other)
		spoilWorld(g.Start())
		if string(w.Snapshot()) != wasWorld || tickTold(tick) != wasTick {
			t.Fatalf("P3: what was handed in shares memory with an answer")
		}
		if answer(kept, keptReport, api.OK) != want || answer(g.Step(w, 4, tick, nil)) != want || len(g.Start().Rows()) != 0 {
			t.Fatalf("P3: two answers share memory")
		}
		spoilWorld(w)
		if answer(kept, keptReport, api.OK) != want {
			t.Fatalf("P3: a world changes with the one that it was made of")
		}
	}
}

// TestReportsListsAreApart: P3 of DOC.md, no two lists of a report share memory, nor does the room behind them.
func TestReportsListsAreApart(t *testing.T) {
	g := game(t, "system A with Mark { spawn; emit 1, 1; } system B with Mark { while 1 == 1 { } } system C with Mark { emit 2, 2; }")
	for at := range 3 {
		for _, workers := range []int{0, 4} {
			_, report, _ := g.StepWith(crowd(t, g, 5), 1, asks(spawn()), workers)
			_, want, _ := g.StepWith(crowd(t, g, 5), 1, asks(spawn()), workers)
			if len(report.Events) != 10 || len(report.Failed) != 5 || len(report.Spawned) != 6 {
				t.Fatalf("the test's own game: %v", report)
			}
			only := api.Report{}
			switch at {
			case 0:
				only.Events, want.Events, report.Events = report.Events, nil, nil
			case 1:
				only.Failed, want.Failed, report.Failed = report.Failed, nil, nil
			case 2:
				only.Spawned, want.Spawned, report.Spawned = report.Spawned, nil, nil
			}
			spoilReport(only)
			if reportTold(report) != reportTold(want) {
				t.Errorf("P3: the list %d of a report shares memory with another one: %v", at, report)
			}
		}
	}
}

// TestProgramIsNewMemory: F2, what is written into what Program and Kinds answered, and behind it, changes nothing; and no two of their lists share memory.
func TestProgramIsNewMemory(t *testing.T) {
	for seed := range 60 {
		_, g, w, tick := rolled(t, seed)
		want := answer(g.Step(w, 4, tick, nil))
		kinds, program := fmt.Sprint(g.Kinds()), fmt.Sprint(g.Program())
		kept := g.Program()
		spoilKinds(g.Kinds())
		spoilProgram(g.Program())
		if fmt.Sprint(g.Kinds()) != kinds || fmt.Sprint(g.Program()) != program || fmt.Sprint(kept) != program || answer(g.Step(w, 4, tick, nil)) != want {
			t.Fatalf("F2: Kinds or Program are not new memory: %v, %v", g.Kinds(), g.Program())
		}
		for at := range lists(kept) {
			got, other := g.Program(), g.Program()
			*lists(got)[at], *lists(other)[at] = spoilt(*lists(got)[at]), nil
			*lists(got)[at] = nil
			if fmt.Sprint(got) != fmt.Sprint(other) {
				t.Fatalf("P3: two lists of a Program share memory: %v", got)
			}
		}
	}
}

func spoilt(list []int) []int {
	fill(list, junk)
	return list
}

// lists are those of a program's sets.
func lists(program api.Program) []*[]int {
	var all []*[]int
	for i := range program.Systems {
		s := &program.Systems[i]
		all = append(all, &s.With, &s.Without, &s.Reads, &s.Writes)
	}
	return all
}

// TestOneListAtManyPlaces: F1, a list may stand at several places of a program; the answers' lists are apart.
func TestOneListAtManyPlaces(t *testing.T) {
	set, code := []int{1, 2, 3}, instrs("step; stop")
	run := api.Routine{Name: "S", Code: code}
	g := gameOf(t, api.System{With: set, Reads: set[:2], Writes: set[1:], Run: run}, api.System{Without: set[2:], Reads: set, Run: run})
	want := fmt.Sprint(g.Program())
	got := g.Program()
	fill(got.Systems[0].With, junk)
	fill(got.Systems[0].Run.Code, api.Instr{})
	set[0], set[1], set[2], code[0] = 7, 8, 9, api.Instr{}
	if fmt.Sprint(g.Program()) != want || fmt.Sprint(got.Systems[0].Reads, got.Systems[0].Writes, got.Systems[1]) != fmt.Sprint([]int{1, 2}, []int{2, 3}, g.Program().Systems[1]) {
		t.Errorf("P3: lists of a program share memory: %v, %v", got, g.Program())
	}
}

// TestErrnos: P2 and P5 of DOC.md, what does not go answers a number, which is an error, and nothing else.
func TestErrnos(t *testing.T) {
	g := game(t, "system A { emit 1, 1; }")
	_, noKinds := frame.New(nil, api.Program{})
	_, noSystem := frame.New(three(), api.Program{Systems: make([]api.System, 1)})
	_, _, noArg := g.Step(nil, 1, api.Tick{}, nil)
	_, _, noPick := g.Step(g.Start(), 1, api.Tick{}, []int{1})
	for want, err := range map[string]error{"hindcast: error 65": noKinds, "hindcast: error 190": noSystem, "hindcast: error 1": noArg, "hindcast: error 180": noPick} {
		if err.Error() != want {
			t.Errorf("P5: %v, want %s", err, want)
		}
	}
}

// TestSideBySide: P4 of DOC.md, one game may step by many at a time, from one world and by one tick; and games may be made at a time of the same program.
func TestSideBySide(t *testing.T) {
	for seed := range 10 {
		_, g, w, tick := rolled(t, seed)
		want := answer(g.Step(w, 4, tick, nil))
		kinds, program := g.Kinds(), g.Program()
		var group sync.WaitGroup
		for worker := range 8 {
			group.Go(func() {
				for range 6 {
					same, bad := frame.New(kinds, program)
					if bad != api.OK {
						t.Errorf("P4: New beside others: %v", bad)
						return
					}
					spoilProgram(g.Program())
					spoilWorld(g.Start())
					for _, own := range []*frame.Game{g, same} {
						next, report, bad := own.StepWith(w, 4, tick, worker*2)
						if got := answer(next, report, bad); got != want {
							t.Errorf("P4: another answer beside others: %s, want %s", got, want)
							return
						}
						spoilReport(report)
						spoilWorld(next)
					}
				}
			})
		}
		group.Wait()
	}
}

// FuzzStep: P1 of DOC.md, and F3 to F7, any games, ticks, frames, picks and workers, against the model.
func FuzzStep(f *testing.F) {
	f.Add(int64(1), 1, []byte{0, 0, 0}, 2)
	f.Add(int64(2), 0, []byte{}, -1)
	f.Add(int64(3), 5001, []byte{255, 1}, 1<<40)
	f.Add(int64(4), 5000, []byte{1, 0}, 16)
	f.Fuzz(func(t *testing.T, seed int64, number int, bytes []byte, workers int) {
		r := rand.New(rand.NewSource(seed))
		g, m, source := grown(t, r, 8)
		w := compare(t, r, g, m, source, g.Start(), 1, someTick(r, g.Kinds()), map[string]int{})
		w = compare(t, r, g, m, source, w, 2, someTick(r, g.Kinds()), map[string]int{})
		picks := make([]int, len(bytes))
		for i, x := range bytes {
			picks[i] = int(int8(x))
		}
		tick := someTick(r, g.Kinds())
		want := api.OK
		if number < 1 || number > 5000 {
			want = api.ErrArg
		}
		other, second, bad := g.StepWith(w, number, tick, workers)
		if bad != want {
			t.Fatalf("F7: %s\nframe %d: %v, want %v", source, number, bad, want)
		}
		if want == api.OK {
			want = m.pick(picks)
		}
		one, first, bad := g.Step(w, number, tick, picks)
		if bad != want {
			t.Fatalf("F3: %s\nframe %d by %v: %v, want %v", source, number, picks, bad, want)
		}
		if want == api.OK && answer(one, first, bad) != answer(other, second, api.OK) {
			t.Fatalf("P8: %s\nframe %d by %v: %s, want %s", source, number, picks, answer(one, first, bad), answer(other, second, api.OK))
		}
	})
}
