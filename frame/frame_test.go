package frame_test

import (
	"fmt"
	"math"
	"slices"
	"strconv"
	"strings"
	"testing"

	"hindcast/api"
	"hindcast/check"
	"hindcast/code"
	"hindcast/compile"
	"hindcast/dice"
	"hindcast/frame"
	"hindcast/plan"
	"hindcast/syntax"
	"hindcast/verify"
	"hindcast/world"
)

func e(index, gen int) api.Entity { return api.Entity{Index: index, Gen: gen} }

func p(kind int, values ...int64) api.Part { return api.Part{Kind: kind, Values: values} }

func spawn(parts ...api.Part) api.Command { return api.Command{Op: api.OpSpawn, Parts: parts} }

func despawn(who api.Entity) api.Command { return api.Command{Op: api.OpDespawn, E: who} }

func add(who api.Entity, part api.Part) api.Command {
	return api.Command{Op: api.OpAdd, E: who, Kind: part.Kind, Values: part.Values}
}

func remove(who api.Entity, kind int) api.Command {
	return api.Command{Op: api.OpRemove, E: who, Kind: kind}
}

func asks(list ...api.Command) api.Tick { return api.Tick{Asks: list} }

// instrs reads instructions, with `;` between them: each a word, and perhaps a number A.
func instrs(text string) []api.Instr {
	var list []api.Instr
	for piece := range strings.SplitSeq(text, ";") {
		words := strings.Fields(piece)
		if len(words) == 0 {
			continue
		}
		i := api.Instr{Op: code.Number(words[0])}
		if len(words) > 1 {
			i.A, _ = strconv.ParseInt(words[1], 10, 64)
		}
		list = append(list, i)
	}
	return list
}

func routine(text string) api.Routine { return api.Routine{Name: "S", Locals: 2, Code: instrs(text)} }

// three are the kinds of most tests: 1 is Pos, 2 is Vel, 3 is Mark.
func three() []api.Kind {
	return []api.Kind{{Name: "Pos", Fields: []string{"x", "y"}}, {Name: "Vel", Fields: []string{"x"}}, {Name: "Mark"}}
}

// compiled makes a source into a program for these kinds.
func compiled(t testing.TB, kinds []api.Kind, source string) (api.Program, *check.Checked) {
	t.Helper()
	tree, err := syntax.Parse(source)
	if err != nil {
		t.Fatalf("the test's own source %s: %v", source, err)
	}
	c, err := check.Check(tree, kinds)
	if err != nil {
		t.Fatalf("the test's own source %s: %v", source, err)
	}
	program, bad := compile.Compile(c)
	if bad != api.OK {
		t.Fatalf("the test's own source %s: %v", source, bad)
	}
	return program, c
}

func newGame(t testing.TB, kinds []api.Kind, program api.Program) *frame.Game {
	t.Helper()
	g, bad := frame.New(kinds, program)
	if bad != api.OK || g == nil {
		t.Fatalf("F1: New: %v, %v; verify says %v", g, bad, verify.Verify(program, kinds))
	}
	return g
}

// game is one of the kinds above.
func game(t testing.TB, source string) *frame.Game {
	t.Helper()
	program, _ := compiled(t, three(), source)
	return newGame(t, three(), program)
}

// games of systems that are written as instructions.
func gameOf(t testing.TB, systems ...api.System) *frame.Game {
	t.Helper()
	return newGame(t, three(), api.Program{Systems: systems})
}

func entityTold(who api.Entity) string { return fmt.Sprint(who.Index, " ", who.Gen) }

// worldTold writes who lives with what: `0 1 1:7,6 2:2; 1 1`.
func worldTold(w *world.World) string {
	var rows []string
	for _, row := range w.Rows() {
		text := entityTold(row.E)
		for _, part := range row.Parts {
			text += fmt.Sprint(" ", part.Kind, ":") + strings.ReplaceAll(strings.Trim(fmt.Sprint(part.Values), "[]"), " ", ",")
		}
		rows = append(rows, text)
	}
	return strings.Join(rows, "; ")
}

// reportTold writes a report: `events s0 0 1 5=7, failed s1 0 1 120=2001, refused 2, spawned 0 1`; what is empty is left out.
func reportTold(r api.Report) string {
	var words []string
	for what, list := range [][]api.Event{r.Events, r.Failed} {
		for _, event := range list {
			words = append(words, fmt.Sprintf("%s s%d %s %d=%d", []string{"event", "failed"}[what], event.System, entityTold(event.E), event.Code, event.Value))
		}
	}
	if r.Refused != 0 {
		words = append(words, fmt.Sprint("refused ", r.Refused))
	}
	for _, who := range r.Spawned {
		words = append(words, "spawned "+entityTold(who))
	}
	return strings.Join(words, ", ")
}

// manyPicks are all picks that go, or the first of them.
func manyPicks(stages [][]int, most int) [][]int {
	all := [][]int{nil}
	for _, stage := range stages {
		for left := len(stage); left > 0; left-- {
			var longer [][]int
			for _, picks := range all {
				for pick := range left {
					longer = append(longer, append(slices.Clone(picks), pick))
				}
			}
			all = longer[:min(len(longer), most)]
		}
	}
	return all
}

// step makes a frame in all ways, which must come to the same; what is handed in must stay.
func step(t testing.TB, g *frame.Game, w *world.World, number int, tick api.Tick) (*world.World, api.Report) {
	t.Helper()
	was := string(w.Snapshot())
	next, report, bad := g.Step(w, number, tick, nil)
	if bad != api.OK || next == nil || next == w {
		t.Fatalf("F3: Step: %v, %v", next, bad)
	}
	same := func(what string, other *world.World, another api.Report, bad api.Errno) {
		if bad != api.OK || string(other.Snapshot()) != string(next.Snapshot()) || reportTold(another) != reportTold(report) {
			t.Fatalf("P8: by %s: %v\n%.2000s\n%.2000s\nwant\n%.2000s\n%.2000s", what, bad, worldTold(other), reportTold(another), worldTold(next), reportTold(report))
		}
	}
	for _, picks := range manyPicks(plan.New(g.Program().Systems).Stages(), 30) {
		other, another, bad := g.Step(w, number, tick, picks)
		same(fmt.Sprint("the picks ", picks), other, another, bad)
	}
	for _, workers := range []int{-1, 0, 1, 2, 3, 7, 15, 16, 17} {
		other, another, bad := g.StepWith(w, number, tick, workers)
		same(fmt.Sprint(workers, " workers"), other, another, bad)
	}
	if string(w.Snapshot()) != was {
		t.Fatalf("F3: the world that was handed in has changed: %s", worldTold(w))
	}
	return next, report
}

// wantStep wants a frame to make this world, with this report.
func wantStep(t *testing.T, promise string, g *frame.Game, w *world.World, number int, tick api.Tick, wantWorld, wantReport string) *world.World {
	t.Helper()
	next, report := step(t, g, w, number, tick)
	if worldTold(next) != wantWorld || reportTold(report) != wantReport {
		t.Errorf("%s: frame %d: %.3000s\n%.3000s\nwant %.3000s\n%.3000s", promise, number, worldTold(next), reportTold(report), wantWorld, wantReport)
	}
	return next
}

// TestExamples: those of the chapter.
func TestExamples(t *testing.T) {
	kinds := []api.Kind{{Name: "Pos", Fields: []string{"x"}}, {Name: "Vel", Fields: []string{"x"}}}
	move := api.System{Reads: []int{2}, Writes: []int{1}, Run: api.Routine{Name: "Move", Code: instrs("step; field 8; field 16; add; put 8; stop")}}
	g := newGame(t, kinds, api.Program{Systems: []api.System{move}})
	w := wantStep(t, "F4", g, g.Start(), 1, asks(spawn(p(1, 5), p(2, 2))), "0 1 1:7 2:2", "spawned 0 1")
	wantStep(t, "F4", g, w, 2, asks(despawn(e(3, 1)), add(e(0, 1), p(1, 4))), "0 1 1:9 2:2", "refused 2")

	loop := api.System{With: []int{1}, Run: api.Routine{Name: "Loop", Code: instrs("step; jump 0")}}
	g = newGame(t, kinds, api.Program{Systems: []api.System{move, loop}})
	wantStep(t, "F5", g, g.Start(), 1, asks(spawn(p(1, 5), p(2, 2))), "0 1 1:7 2:2", "failed s1 0 1 120=2001, spawned 0 1")
}

// TestExampleOfTheWhole: the game of DOC.md's example, as far as frames go.
func TestExampleOfTheWhole(t *testing.T) {
	g := game(t, `system Move reads Vel writes Pos { Pos.x = Pos.x + Vel.x; }
system Ring without Mark reads Pos { if Pos.x > 8 { emit Pos.x, me; add Mark{}; } }
func twice(n) { return n * 2; }`)
	w := wantStep(t, "F5", g, g.Start(), 1, asks(spawn(p(1, 5, 6), p(2, 2))), "0 1 1:7,6 2:2", "spawned 0 1")
	w = wantStep(t, "F5", g, w, 2, asks(spawn(p(1, 1, 1), p(3))), "0 1 1:9,6 2:2 3:; 1 1 1:1,1 3:", "event s1 0 1 9=0, spawned 1 1")
	w = wantStep(t, "F5", g, w, 3, api.Tick{}, "0 1 1:11,6 2:2 3:; 1 1 1:1,1 3:", "")
	wantStep(t, "F5", g, w, 4, asks(despawn(e(0, 1)), add(e(0, 9), p(3))), "1 1 1:1,1 3:", "refused 1")
}

// TestNewKinds: F1, ErrKinds, whatever the program is.
func TestNewKinds(t *testing.T) {
	many := make([]api.Kind, 13)
	for i := range many {
		many[i].Name = "K" + strconv.Itoa(i)
	}
	wrong := api.Program{Systems: []api.System{{Run: routine("add")}}}
	for _, kinds := range [][]api.Kind{
		nil, {}, many, {{Name: ""}}, {{Name: "1a"}}, {{Name: "A"}, {Name: "A"}}, {{Name: "A b"}}, {{Name: strings.Repeat("a", 17)}},
		{{Name: "A", Fields: []string{"x", "x"}}}, {{Name: "A", Fields: []string{""}}}, {{Name: "A", Fields: []string{"a", "b", "c", "d", "e"}}},
	} {
		for _, program := range []api.Program{{}, wrong} {
			if g, bad := frame.New(kinds, program); g != nil || bad != api.ErrKinds {
				t.Errorf("F1: New of %v: %v, %v", kinds, g, bad)
			}
		}
	}
	if g, bad := frame.New(many[:12], api.Program{}); g == nil || bad != api.OK {
		t.Errorf("F1: New of twelve kinds: %v", bad)
	}
	if g, bad := frame.New(many[:12], wrong); g != nil || bad != api.ErrSystem {
		t.Errorf("F1: New of twelve kinds, and a program that may not be: %v, %v", g, bad)
	}
}

// TestNewSystem: F1, ErrSystem, if verify refuses the program for these kinds.
func TestNewSystem(t *testing.T) {
	seventeen := make([]api.System, 17)
	for i := range seventeen {
		seventeen[i].Run = routine("stop")
	}
	round := api.Routine{Name: "f", Code: instrs("call 0; ret")}
	for _, row := range []struct {
		name    string
		program api.Program
		want    api.Errno
	}{
		{"none", api.Program{}, api.OK},
		{"sixteen systems", api.Program{Systems: seventeen[:16]}, api.OK},
		{"seventeen systems", api.Program{Systems: seventeen}, api.ErrSystem},
		{"a kind that is none", api.Program{Systems: []api.System{{With: []int{4}, Run: routine("stop")}}}, api.ErrSystem},
		{"the last kind", api.Program{Systems: []api.System{{With: []int{3}, Run: routine("stop")}}}, api.OK},
		{"kinds that do not rise", api.Program{Systems: []api.System{{With: []int{2, 1}, Run: routine("stop")}}}, api.ErrSystem},
		{"a kind in all sets", api.Program{Systems: []api.System{{With: []int{2}, Without: []int{2}, Reads: []int{2}, Writes: []int{2}, Run: routine("stop")}}}, api.OK},
		{"a field that is not written", api.Program{Systems: []api.System{{Reads: []int{1}, Run: routine("push 1; put 8; stop")}}}, api.ErrSystem},
		{"a stack that does not fit", api.Program{Systems: []api.System{{Run: routine("add; stop")}}}, api.ErrSystem},
		{"no end", api.Program{Systems: []api.System{{Run: routine("step")}}}, api.ErrSystem},
		{"no code", api.Program{Systems: []api.System{{Run: routine("")}}}, api.ErrSystem},
		{"a round", api.Program{Systems: []api.System{{Run: routine("jump 0")}}}, api.ErrSystem},
		{"a round with a step", api.Program{Systems: []api.System{{Run: routine("step; jump 0")}}}, api.OK},
		{"functions that call one another round", api.Program{Funcs: []api.Routine{round}}, api.ErrSystem},
		{"a jump to nowhere", api.Program{Systems: []api.System{{Run: routine("jump 7; stop")}}}, api.ErrSystem},
		{"no name", api.Program{Systems: []api.System{{Run: api.Routine{Code: instrs("stop")}}}}, api.ErrSystem},
		{"the second system alone is wrong", api.Program{Systems: []api.System{{Run: routine("stop")}, {Run: routine("drop; stop")}}}, api.ErrSystem},
	} {
		g, bad := frame.New(three(), row.program)
		if bad != row.want || (g != nil) != (bad == api.OK) {
			t.Errorf("F1: New of %s: %v, %v; want %v", row.name, g, bad, row.want)
		}
		if (verify.Verify(row.program, three()) == nil) != (bad == api.OK) {
			t.Errorf("F1: New of %s: %v, and verify says otherwise", row.name, bad)
		}
	}
}

// TestStart: F2, an empty world of these kinds, each time another one.
func TestStart(t *testing.T) {
	g := game(t, "system M { }")
	w := g.Start()
	empty, _ := world.New(three())
	if w == nil || string(w.Snapshot()) != string(empty.Snapshot()) || fmt.Sprint(w.Kinds()) != fmt.Sprint(three()) {
		t.Fatalf("F2: Start: %v", w)
	}
	if who, bad := w.Spawn([]api.Part{p(3)}); bad != api.OK || who != e(0, 1) {
		t.Errorf("F2: the first one who comes is %v, %v", who, bad)
	}
	if again := g.Start(); len(again.Rows()) != 0 || string(again.Snapshot()) != string(empty.Snapshot()) {
		t.Errorf("F2: Start, behind a spawn in another one: %s", worldTold(again))
	}
}

// TestProgramAndKinds: F2, what the game was made of.
func TestProgramAndKinds(t *testing.T) {
	program, _ := compiled(t, three(), "func f(a, b) { return a; } system A with Mark without Vel writes Pos { let v = 1; Pos.y = f(v, 2); } system B reads Vel { emit Vel.x, 1; } func g() { }")
	g := newGame(t, three(), program)
	want, _ := code.Encode(program)
	if got, bad := code.Encode(g.Program()); bad != api.OK || string(got) != string(want) {
		t.Errorf("F2: Program: %v, want %v", g.Program(), program)
	}
	if got := fmt.Sprint(g.Kinds()); got != fmt.Sprint(three()) {
		t.Errorf("F2: Kinds: %s", got)
	}
	none := newGame(t, []api.Kind{{Name: "A"}}, api.Program{})
	if got := none.Program(); len(got.Systems)+len(got.Funcs) != 0 || len(none.Kinds()) != 1 || len(none.Kinds()[0].Fields) != 0 {
		t.Errorf("F2: of no program: %v, %v", got, none.Kinds())
	}
}

// wantRefused wants an error of both calls, and nothing beside it.
func wantRefused(t *testing.T, g *frame.Game, w *world.World, number int, tick api.Tick, picks []int, want api.Errno) {
	t.Helper()
	next, report, bad := g.Step(w, number, tick, picks)
	if bad != want || next != nil || report.Events != nil || report.Failed != nil || report.Spawned != nil || report.Refused != 0 {
		t.Errorf("F3: Step(%d, %d inputs, %d asks, %v): %v, %v, %v; want %v", number, len(tick.Inputs), len(tick.Asks), picks, next, report, bad, want)
	}
	if picks != nil {
		return
	}
	for _, workers := range []int{math.MinInt, -1, 0, 1, 2, 16, 17, math.MaxInt} {
		next, report, bad := g.StepWith(w, number, tick, workers)
		if bad != want || next != nil || report.Events != nil || report.Failed != nil || report.Spawned != nil || report.Refused != 0 {
			t.Errorf("F7: StepWith(%d, %d inputs, %d asks, %d): %v, %v, %v; want %v", number, len(tick.Inputs), len(tick.Asks), workers, next, report, bad, want)
		}
	}
}

// TestArgs: F3, ErrArg, at each edge.
func TestArgs(t *testing.T) {
	g := game(t, "system M { } system N { }")
	w := g.Start()
	for _, number := range []int{0, -1, 5001, math.MinInt, math.MaxInt, 1<<32 + 1} {
		wantRefused(t, g, w, number, api.Tick{}, nil, api.ErrArg)
	}
	for _, number := range []int{1, 2, 4999, 5000} {
		step(t, g, w, number, api.Tick{})
	}
	wantRefused(t, g, nil, 1, api.Tick{}, nil, api.ErrArg)
	wantRefused(t, g, w, 1, api.Tick{Inputs: make([]api.Input, 33)}, nil, api.ErrArg)
	wantRefused(t, g, w, 1, api.Tick{Asks: make([]api.Command, 201)}, nil, api.ErrArg)
	wantRefused(t, g, w, 1, api.Tick{Asks: make([]api.Command, 100000), Inputs: make([]api.Input, 100000)}, nil, api.ErrArg)
	step(t, g, w, 1, api.Tick{Inputs: make([]api.Input, 32)})
	wantStep(t, "F4", g, w, 1, api.Tick{Inputs: make([]api.Input, 32), Asks: make([]api.Command, 200)}, "", "refused 200")
	for count := range 20 {
		want := api.ErrPick
		switch {
		case count > 16:
			want = api.ErrArg
		case count == 0 || count == 2:
			continue
		}
		wantRefused(t, g, w, 1, api.Tick{}, make([]int, count), want)
	}
	wantRefused(t, g, w, 1, api.Tick{}, make([]int, 100000), api.ErrArg)
}

// TestOtherKinds: F3, ErrArg, if the world's kinds are not the game's, names and fields, in order.
func TestOtherKinds(t *testing.T) {
	g := game(t, "system M { }")
	change := func(f func(kinds []api.Kind)) []api.Kind {
		kinds := three()
		f(kinds)
		return kinds
	}
	for _, kinds := range [][]api.Kind{
		three()[:2], three()[1:], append(three(), api.Kind{Name: "More"}),
		change(func(k []api.Kind) { k[0].Name = "pos" }), change(func(k []api.Kind) { k[2].Name = "Marks" }),
		change(func(k []api.Kind) { k[0], k[1] = k[1], k[0] }), change(func(k []api.Kind) { k[0].Fields = []string{"y", "x"} }),
		change(func(k []api.Kind) { k[0].Fields = []string{"x"} }), change(func(k []api.Kind) { k[1].Fields = []string{"y"} }),
		change(func(k []api.Kind) { k[2].Fields = []string{"x"} }), change(func(k []api.Kind) { k[1].Fields = nil }),
	} {
		w, bad := world.New(kinds)
		if bad != api.OK {
			t.Fatalf("the test's own kinds %v", kinds)
		}
		wantRefused(t, g, w, 1, api.Tick{}, nil, api.ErrArg)
	}
	w, _ := world.New(change(func(k []api.Kind) { k[2].Fields = []string{} }))
	step(t, g, w, 1, api.Tick{})
}

// TestPicks: F3, what plan.Order answers of picks; ErrArg comes first.
func TestPicks(t *testing.T) {
	g := game(t, "system A writes Pos { } system B reads Pos writes Vel { } system C writes Mark { } system D reads Mark, Vel { }") // 0 2, 1, 3
	w := g.Start()
	for _, picks := range [][]int{{0, 0, 0, 0}, {1, 0, 0, 0}, nil, {}} {
		if next, _, bad := g.Step(w, 1, api.Tick{}, picks); bad != api.OK || next == nil {
			t.Errorf("F3: the picks %v: %v", picks, bad)
		}
	}
	for _, picks := range [][]int{{2, 0, 0, 0}, {0, 1, 0, 0}, {0, 0, 1, 0}, {0, 0, 0, 1}, {-1, 0, 0, 0}, {0, 0, 0}, {0}, {0, 0, 0, 0, 0}, {0, 0, 0, math.MaxInt}, {math.MinInt, 0, 0, 0}, make([]int, 16)} {
		wantRefused(t, g, w, 1, api.Tick{}, picks, api.ErrPick)
		wantRefused(t, g, nil, 1, api.Tick{}, picks, api.ErrArg)
		wantRefused(t, g, w, 0, api.Tick{}, picks, api.ErrArg)
		wantRefused(t, g, w, 5001, api.Tick{}, picks, api.ErrArg)
		wantRefused(t, g, w, 1, api.Tick{Inputs: make([]api.Input, 33)}, picks, api.ErrArg)
		wantRefused(t, g, w, 1, api.Tick{Asks: make([]api.Command, 201)}, picks, api.ErrArg)
	}
	wantRefused(t, g, w, 1, api.Tick{}, make([]int, 17), api.ErrArg)
	none := newGame(t, three(), api.Program{})
	wantRefused(t, none, none.Start(), 1, api.Tick{}, []int{0}, api.ErrPick)
	wantStep(t, "F4", none, none.Start(), 1, asks(spawn(p(2, 4))), "0 1 2:4", "spawned 0 1")
}

// TestAsks: F4, done one behind the other; what the world refuses, and another Op, changes nothing.
func TestAsks(t *testing.T) {
	g := newGame(t, three(), api.Program{})
	w := wantStep(t, "F4", g, g.Start(), 1, asks(spawn(p(2, 7), p(1, 1, 2)), spawn(), spawn(p(3)), spawn(p(1, 3, 4))), "0 1 1:1,2 2:7; 1 1; 2 1 3:; 3 1 1:3,4", "spawned 0 1, spawned 1 1, spawned 2 1, spawned 3 1")
	rows := "0 1 1:1,2 2:7; 1 1; 2 1 3:; 3 1 1:3,4"
	for _, row := range []struct {
		name   string
		tick   api.Tick
		world  string
		report string
	}{
		{"none", asks(), rows, ""},
		{"who comes has what went ahead", asks(spawn(), add(e(4, 1), p(3)), remove(e(4, 1), 3), add(e(4, 1), p(2, 5))), rows + "; 4 1 2:5", "spawned 4 1"},
		{"ahead of who comes", asks(add(e(4, 1), p(3)), spawn()), rows + "; 4 1", "refused 1, spawned 4 1"},
		{"who goes, in the order of the asks", asks(despawn(e(2, 1)), despawn(e(0, 1)), despawn(e(1, 1)), spawn(p(2, 1)), spawn(p(2, 2))), "0 2 2:2; 2 2 2:1; 3 1 1:3,4", "spawned 2 2, spawned 0 2"},
		{"who is gone", asks(despawn(e(1, 1)), despawn(e(1, 1)), add(e(1, 1), p(3)), spawn(), add(e(1, 1), p(3)), add(e(1, 2), p(3))), "0 1 1:1,2 2:7; 1 2 3:; 2 1 3:; 3 1 1:3,4", "refused 3, spawned 1 2"},
		{"what it has", asks(add(e(0, 1), p(1, 9, 9)), add(e(0, 1), p(3)), add(e(0, 1), p(3))), "0 1 1:1,2 2:7 3:; 1 1; 2 1 3:; 3 1 1:3,4", "refused 2"},
		{"what it has not", asks(remove(e(3, 1), 3), remove(e(3, 1), 1), remove(e(3, 1), 1)), "0 1 1:1,2 2:7; 1 1; 2 1 3:; 3 1", "refused 2"},
		{"no kinds", asks(add(e(1, 1), p(0)), add(e(1, 1), p(4)), remove(e(0, 1), 0), remove(e(0, 1), 4), remove(e(0, 1), -1), spawn(p(4)), spawn(p(0)), spawn(p(-1)), spawn(p(1<<40))), rows, "refused 9"},
		{"other counts of values", asks(add(e(1, 1), p(1, 1)), add(e(1, 1), p(1)), add(e(1, 1), p(3, 0)), spawn(p(2)), spawn(p(2, 1, 2)), spawn(p(3), p(1, 1, 2, 3))), rows, "refused 6"},
		{"a kind twice", asks(spawn(p(3), p(2, 1), p(3))), rows, "refused 1"},
		{"stale ones", asks(despawn(e(0, 2)), despawn(e(-1, 1)), despawn(e(9, 1)), despawn(e(0, 0)), despawn(e(200, 1)), despawn(e(1<<40, 1)), add(e(0, 2), p(3)), remove(e(0, 0), 1)), rows, "refused 8"},
		{"other ops", asks(api.Command{}, api.Command{Op: 5, E: e(0, 1), Kind: 3}, api.Command{Op: -1, E: e(0, 1)}, api.Command{Op: 1 << 40}, despawn(e(3, 1))), "0 1 1:1,2 2:7; 1 1; 2 1 3:", "refused 4"},
		{"what does not count", asks(api.Command{Op: api.OpSpawn, E: e(0, 1), Kind: 9, Values: []int64{1}}, api.Command{Op: api.OpDespawn, E: e(2, 1), Kind: 9, Values: []int64{1}, Parts: []api.Part{p(9)}}), "0 1 1:1,2 2:7; 1 1; 3 1 1:3,4; 4 1", "spawned 4 1"},
	} {
		t.Run(row.name, func(t *testing.T) { wantStep(t, "F4", g, w, 2, row.tick, row.world, row.report) })
	}
}

// TestAllAsks: F4, all of them, also where all numbers are given.
func TestAllAsks(t *testing.T) {
	g := newGame(t, three(), api.Program{})
	all := slices.Repeat([]api.Command{spawn(p(3))}, 200)
	w, report := step(t, g, g.Start(), 1, asks(all...))
	if len(report.Spawned) != 200 || report.Refused != 0 || len(w.Rows()) != 200 || report.Spawned[199] != e(199, 1) {
		t.Fatalf("F4: two hundred spawns: %d, %d refused", len(report.Spawned), report.Refused)
	}
	next, report := step(t, g, w, 2, asks(append(slices.Clone(all[:198]), despawn(e(77, 1)), spawn())...))
	if report.Refused != 198 || !slices.Equal(report.Spawned, []api.Entity{e(77, 2)}) || len(next.Rows()) != 200 {
		t.Errorf("F4: where all live: %s", reportTold(report))
	}
	var gone []api.Command
	for i := range 200 {
		gone = append(gone, despawn(e(199-i, 1)))
	}
	next, report = step(t, g, w, 2, asks(gone...))
	if report.Refused != 0 || len(next.Rows()) != 0 {
		t.Errorf("F4: two hundred go: %s", reportTold(report))
	}
	if _, report = step(t, g, next, 3, asks(spawn(), spawn())); !slices.Equal(report.Spawned, []api.Entity{e(199, 2), e(198, 2)}) {
		t.Errorf("F4: behind them: %s", reportTold(report))
	}
}

// TestWho: F5, each system runs for those that have all of With, Reads and Writes, and none of Without; all sets of two kinds.
func TestWho(t *testing.T) {
	var everybody []api.Command
	for set := range 8 {
		var parts []api.Part
		for kind, part := range []api.Part{p(1, 0, 0), p(2, 0), p(3)} {
			if set>>kind&1 == 1 {
				parts = append(parts, part)
			}
		}
		everybody = append(everybody, spawn(parts...))
	}
	sets := [][]int{nil, {1}, {2}, {3}, {1, 3}, {2, 3}, {1, 2, 3}}
	for _, with := range sets {
		for _, without := range sets {
			for _, reads := range sets {
				for _, writes := range sets {
					g := gameOf(t, api.System{With: with, Without: without, Reads: reads, Writes: writes, Run: routine("me; me; emit; stop")})
					_, report, bad := g.Step(g.Start(), 1, asks(everybody...), nil)
					var want []string
					for set := range 8 {
						has := func(kind int) bool { return set>>(kind-1)&1 == 1 }
						lacks := func(kind int) bool { return !has(kind) }
						if !slices.ContainsFunc(slices.Concat(with, reads, writes), lacks) && !slices.ContainsFunc(without, has) {
							want = append(want, fmt.Sprintf("event s0 %d 1 %[1]d=%[1]d", set))
						}
					}
					var got []string
					for _, event := range report.Events {
						got = append(got, reportTold(api.Report{Events: []api.Event{event}}))
					}
					if bad != api.OK || !slices.Equal(got, want) {
						t.Fatalf("F5: with %v without %v reads %v writes %v: %v, want %v", with, without, reads, writes, got, want)
					}
				}
			}
		}
	}
}

// TestBehindTheAsks: F5, it counts who lives, and with what, behind the asks.
func TestBehindTheAsks(t *testing.T) {
	g := game(t, "system M without Mark reads Vel { emit Vel.x, 0; }")
	w := wantStep(t, "F5", g, g.Start(), 1, asks(spawn(p(2, 10)), spawn(p(2, 11), p(3)), spawn(p(3)), spawn(p(2, 13))), "0 1 2:10; 1 1 2:11 3:; 2 1 3:; 3 1 2:13", "event s0 0 1 10=0, event s0 3 1 13=0, spawned 0 1, spawned 1 1, spawned 2 1, spawned 3 1")
	wantStep(t, "F5", g, w, 2, asks(add(e(0, 1), p(3)), remove(e(1, 1), 3), remove(e(2, 1), 3), add(e(2, 1), p(2, 12)), despawn(e(3, 1)), spawn(p(2, 23))), "0 1 2:10 3:; 1 1 2:11; 2 1 2:12; 3 2 2:23", "event s0 1 1 11=0, event s0 2 1 12=0, event s0 3 2 23=0, spawned 3 2")
}

// TestRowAsItIsThen: F5, a run sees what the systems ahead have left, the asks first of all, and not what those behind it leave.
func TestRowAsItIsThen(t *testing.T) {
	g := game(t, `system A reads Vel { emit 0, Vel.x; }
system B writes Vel { Vel.x = Vel.x * 10; }
system C reads Vel writes Pos { Pos.x = Vel.x; emit 2, Pos.x * 1000 + Pos.y; Pos.y = Pos.y + 1; }
system D writes Vel { Vel.x = Vel.x + 1; emit 3, Vel.x; }
system E reads Pos, Vel { emit 4, Pos.x * 1000 + Vel.x; }`)
	w := wantStep(t, "F5", g, g.Start(), 1, asks(spawn(p(1, 5, 6), p(2, 3)), spawn(p(2, 4))), "0 1 1:30,7 2:31; 1 1 2:41",
		"event s0 0 1 0=3, event s0 1 1 0=4, event s2 0 1 2=30006, event s3 0 1 3=31, event s3 1 1 3=41, event s4 0 1 4=30031, spawned 0 1, spawned 1 1")
	wantStep(t, "F5", g, w, 2, asks(remove(e(0, 1), 2), add(e(0, 1), p(2, 1))), "0 1 1:10,8 2:11; 1 1 2:411",
		"event s0 0 1 0=1, event s0 1 1 0=41, event s2 0 1 2=10007, event s3 0 1 3=11, event s3 1 1 3=411, event s4 0 1 4=10011")
}

// TestWhoStays: F5, who lives, and with which kinds, stays as it was behind the asks till all have run.
func TestWhoStays(t *testing.T) {
	g := game(t, `system A with Pos { add Mark{}; remove Vel; spawn Pos{x: me}; }
system B with Mark { emit 1, 1; }
system C reads Vel { emit 2, Vel.x; }
system D with Pos { die; }
system E reads Pos { emit has(Mark) ? 1 : 0, has(Vel) ? Pos.x : 0 - 1; }`)
	w := wantStep(t, "F5", g, g.Start(), 1, asks(spawn(p(1, 5, 0), p(2, 3))), "1 1 1:0,0", "event s2 0 1 2=3, event s4 0 1 0=5, spawned 0 1, spawned 1 1")
	wantStep(t, "F5", g, w, 2, asks(), "0 2 1:1,0", "event s4 1 1 0=-1, refused 1, spawned 0 2") // it had no Vel to be removed
}

// TestEnv: F5, a run may ask the frame, the seed by dice, the inputs, its entity.
func TestEnv(t *testing.T) {
	g := game(t, "system A { emit 1, 1; } system B with Mark { emit tick, me; emit input(3, -4), input(3, 5); emit rand(1000), rand(1000); } system C with Mark { emit rand(1000), rand(1000); }")
	w, _ := step(t, g, g.Start(), 1, asks(spawn(), spawn(p(3)), spawn(p(3))))
	tick := api.Tick{Seed: -8, Inputs: []api.Input{{Player: 3, Key: -4, Value: 11}, {Player: -4, Key: 3, Value: 12}, {Player: 3, Key: -4, Value: 13}}}
	for _, seed := range []int64{-8, 0, 9, math.MinInt64} {
		for _, number := range []int{2, 70, 5000} {
			tick.Seed = seed
			_, report := step(t, g, w, number, tick)
			var want []api.Event
			for system := range 3 {
				for index := range 3 {
					told := func(a, b int64) { want = append(want, api.Event{System: system, E: e(index, 1), Code: a, Value: b}) }
					if system == 0 {
						told(1, 1)
					}
					if index == 0 || system == 0 {
						continue
					}
					if system == 1 {
						told(int64(number), int64(index))
						told(13, 0)
					}
					d := dice.New(seed, number, system, index)
					told(d.Below(1000), d.Below(1000))
				}
			}
			if !slices.Equal(report.Events, want) {
				t.Errorf("F5: frame %d, seed %d: %v, want %v", number, seed, report.Events, want)
			}
		}
	}
}

// TestFailed: F5, nothing of a run that was cut off is done, and all else is.
func TestFailed(t *testing.T) {
	g := game(t, `system A writes Pos { Pos.x = 1; emit 0, 0; spawn; if Pos.y == 1 { while 1 == 1 { } } Pos.x = 2; add Mark{}; }
system B reads Pos writes Vel { Vel.x = Pos.x; emit 1, Pos.x; if Pos.y == 2 { repeat 17 { emit 5, 5; } } die; }
system C with Pos { if me == 1 { repeat 20 { remove Mark; } } emit 2, 2; }`)
	wantStep(t, "F5", g, g.Start(), 1, asks(spawn(p(1, 9, 0), p(2, 0)), spawn(p(1, 9, 1), p(2, 0)), spawn(p(1, 9, 2), p(2, 0)), spawn(p(1, 9, 1))), "2 1 1:2,2 2:0 3:; 3 1 1:9,1; 4 1; 5 1",
		"event s0 0 1 0=0, event s0 2 1 0=0, event s1 0 1 1=2, event s1 1 1 1=9, event s2 0 1 2=2, event s2 2 1 2=2, event s2 3 1 2=2, "+
			"failed s0 1 1 120=2001, failed s0 3 1 120=2001, failed s1 2 1 102=36, failed s2 1 1 102=36, "+
			"spawned 0 1, spawned 1 1, spawned 2 1, spawned 3 1, spawned 4 1, spawned 5 1")
}

// TestFailedReport: F6, who failed, by systems, then numbers: the error, and the steps.
func TestFailedReport(t *testing.T) {
	loop := routine("step; jump 0")
	long := routine("step; step; step; die; jump 2")
	g := gameOf(t,
		api.System{Writes: []int{1}, Run: long},
		api.System{Reads: []int{1}, Run: loop},
		api.System{With: []int{3}, Run: routine("step; push 1; push 1; emit; jump 0")},
		api.System{With: []int{1}, Run: routine("stop")})
	wantStep(t, "F6", g, g.Start(), 1, asks(spawn(p(1, 0, 0)), spawn(p(3)), spawn(p(1, 0, 0), p(3))), "0 1 1:0,0; 1 1 3:; 2 1 1:0,0 3:",
		"failed s0 0 1 102=19, failed s0 2 1 102=19, failed s1 0 1 120=2001, failed s1 2 1 120=2001, failed s2 1 1 102=17, failed s2 2 1 102=17, spawned 0 1, spawned 1 1, spawned 2 1")
}

// TestOrderOfCommands: F6, they are done by systems, then numbers, then as a run told them, in whatever order the systems ran; the asks stand ahead.
func TestOrderOfCommands(t *testing.T) {
	g := game(t, `system A writes Pos { spawn Vel{x: me}; spawn Vel{x: me + 10}; }
system B reads Pos { spawn Vel{x: me + 20}; }
system C with Mark { spawn Vel{x: me + 30}; }`) // A and C have one stage: C runs ahead of B, and may run ahead of A
	wantStep(t, "F6", g, g.Start(), 1, asks(spawn(p(1, 0, 0), p(3)), spawn(), spawn(p(1, 0, 0), p(3))),
		"0 1 1:0,0 3:; 1 1; 2 1 1:0,0 3:; 3 1 2:0; 4 1 2:10; 5 1 2:2; 6 1 2:12; 7 1 2:20; 8 1 2:22; 9 1 2:30; 10 1 2:32",
		"spawned 0 1, spawned 1 1, spawned 2 1, spawned 3 1, spawned 4 1, spawned 5 1, spawned 6 1, spawned 7 1, spawned 8 1, spawned 9 1, spawned 10 1")
}

// TestOrderOfEvents: F6, they are told by systems, then numbers, then as a run told them; so are those who failed.
func TestOrderOfEvents(t *testing.T) {
	g := game(t, `system A writes Pos { emit 0, 2; emit 0, 1; if Pos.x == 1 { while 1 == 1 { } } }
system B reads Pos { emit 1, me; if Pos.x == 1 { while 1 == 1 { } } }
system C with Mark { emit 2, me; if me == 2 { while 1 == 1 { } } }`)
	wantStep(t, "F6", g, g.Start(), 1, asks(spawn(p(1, 0, 0)), spawn(p(1, 1, 0), p(3)), spawn(p(1, 0, 0), p(3)), spawn(p(1, 1, 0), p(3))),
		"0 1 1:0,0; 1 1 1:1,0 3:; 2 1 1:0,0 3:; 3 1 1:1,0 3:",
		"event s0 0 1 0=2, event s0 0 1 0=1, event s0 2 1 0=2, event s0 2 1 0=1, event s1 0 1 1=0, event s1 2 1 1=2, event s2 1 1 2=1, event s2 3 1 2=3, "+
			"failed s0 1 1 120=2001, failed s0 3 1 120=2001, failed s1 1 1 120=2001, failed s1 3 1 120=2001, failed s2 2 1 120=2001, "+
			"spawned 0 1, spawned 1 1, spawned 2 1, spawned 3 1")
}

// TestRefused: F6, commands that do not go count beside the asks that do not.
func TestRefused(t *testing.T) {
	g := game(t, `system A with Pos { die; add Mark{}; die; }
system B with Pos { remove Pos; }
system C with Vel { add Vel{}; remove Vel; remove Vel; add Vel{x: 3}; }`)
	wantStep(t, "F6", g, g.Start(), 1, asks(spawn(p(1, 0, 0)), spawn(p(2, 1)), spawn(p(9)), api.Command{}), "1 1 2:3", "refused 7, spawned 0 1, spawned 1 1")
	wantStep(t, "F6", g, g.Start(), 1, asks(), "", "")
}

// TestWritesOfAll: F5, the values of all kinds that a system writes are set, whether it changed them or not.
func TestWritesOfAll(t *testing.T) {
	g := game(t, "system A writes Pos, Vel { let x = Pos.x; Pos.x = Pos.y; Pos.y = x; Vel.x = Vel.x - 9223372036854775807; }")
	w := wantStep(t, "F5", g, g.Start(), 1, asks(spawn(p(1, 3, 4), p(2, -1)), spawn(p(1, 5, 6)), spawn(p(2, -2), p(3), p(1, 7, 8))), "0 1 1:4,3 2:-9223372036854775808; 1 1 1:5,6; 2 1 1:8,7 2:9223372036854775807 3:", "spawned 0 1, spawned 1 1, spawned 2 1")
	wantStep(t, "F5", g, w, 2, asks(), "0 1 1:3,4 2:1; 1 1 1:5,6; 2 1 1:7,8 2:0 3:", "")
}

// TestGenerations: F5 and F6, a number that is given anew is somebody else, of whom the events tell.
func TestGenerations(t *testing.T) {
	g := game(t, "system A with Mark { emit 1, 1; die; spawn Mark{}; }")
	w := g.Start()
	for number := range 5 {
		tick, spawned := asks(), fmt.Sprintf("spawned 0 %d", number+2)
		if number == 0 {
			tick, spawned = asks(spawn(p(3))), "spawned 0 1, spawned 0 2"
		}
		w = wantStep(t, "F6", g, w, number+1, tick, fmt.Sprintf("0 %d 3:", number+2), fmt.Sprintf("event s0 0 %d 1=1, %s", number+1, spawned))
	}
}
