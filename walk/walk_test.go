package walk_test

import (
	"fmt"
	"math"
	"testing"

	"hindcast/api"
	"hindcast/check"
	"hindcast/dice"
	"hindcast/syntax"
	"hindcast/walk"
)

// kinds are those of the chapter's examples, and more.
func kinds() []api.Kind {
	return []api.Kind{
		{Name: "Pos", Fields: []string{"x"}},
		{Name: "Vel", Fields: []string{"x"}},
		{Name: "Mark"},
		{Name: "Box", Fields: []string{"a", "b", "c", "x"}},
		{Name: "Pair", Fields: []string{"a", "b"}},
	}
}

// env is that of the chapter's examples: the entity 3 1 with Pos 7, Vel 2; frame 5.
func env() api.Env {
	return api.Env{Frame: 5, Seed: 11, Row: api.Row{E: api.Entity{Index: 3, Gen: 1}, Parts: []api.Part{
		{Kind: 1, Values: []int64{7}}, {Kind: 2, Values: []int64{2}},
	}}}
}

func checked(t testing.TB, src string) *check.Checked {
	t.Helper()
	return checkedFor(t, src, kinds())
}

func checkedFor(t testing.TB, src string, list []api.Kind) *check.Checked {
	t.Helper()
	n, err := syntax.Parse(src)
	if err != nil {
		t.Fatalf("the test's own source %.2000q: %v", src, err)
	}
	c, err := check.Check(n, list)
	if err != nil {
		t.Fatalf("the test's own source %.2000q: %v", src, err)
	}
	return c
}

// tell writes an outcome; lists of nothing are alike.
func tell(o api.Outcome) string {
	return fmt.Sprintf("values %v commands %v events %v steps %d error %d", o.Values, o.Commands, o.Events, o.Steps, o.Err)
}

// run lets the first system of a source run, for the entity of the examples.
func run(t testing.TB, src string) api.Outcome {
	t.Helper()
	return walk.Run(checked(t, src), 0, env())
}

// wantRun asks for an outcome without an error, written as text: a list that is left out is empty.
func wantRun(t *testing.T, promise string, src string, e api.Env, steps int, values, commands, events string) {
	t.Helper()
	want := fmt.Sprintf("values [%s] commands [%s] events [%s] steps %d error 0", values, commands, events, steps)
	if got := tell(walk.Run(checked(t, src), 0, e)); got != want {
		t.Errorf("%s: %.2000s\ngot  %s\nwant %s", promise, src, got, want)
	}
}

// wantCut asks for a run that was cut off.
func wantCut(t *testing.T, promise string, src string, e api.Env, reason api.Errno, steps int) {
	t.Helper()
	o := walk.Run(checked(t, src), 0, e)
	if o.Err != reason || o.Steps != steps {
		t.Errorf("%s: %.2000s: error %d, steps %d, want error %d, steps %d", promise, src, o.Err, o.Steps, reason, steps)
	}
	wantNothing(t, src, o)
}

// wantNothing: M1, a run that was cut off has done nothing.
func wantNothing(t *testing.T, src string, o api.Outcome) {
	t.Helper()
	if o.Values != nil || o.Commands != nil || o.Events != nil {
		t.Errorf("M1: %.2000s was cut off, and has done something: %s", src, tell(o))
	}
}

// wantSteps asks for an outcome that tells nothing.
func wantSteps(t *testing.T, src string, steps int) {
	t.Helper()
	wantRun(t, "M2", src, env(), steps, "", "", "")
}

// wantNumber asks for the value of an expression, in a system that sees Pos and Vel, and may call some functions.
func wantNumber(t *testing.T, expression string, want int64) {
	t.Helper()
	src := "func zero() { let a = 1; } func two(a, b) { let c = a * 10; c = c + b; return c; return 0; } func id(a) { return a; }" +
		" system M reads Pos, Vel { let v = 6; emit 0, " + expression + "; }"
	o := run(t, src)
	if o.Err != api.OK || len(o.Events) != 1 || o.Events[0] != (api.Event{E: env().Row.E, Value: want}) {
		t.Errorf("M3: %s: %s, want the value %d", expression, tell(o), want)
	}
}

// wantTruth asks for the value of an expression that is a truth.
func wantTruth(t *testing.T, expression string, want bool) {
	t.Helper()
	wantNumber(t, expression+" ? 1 : 2", map[bool]int64{true: 1, false: 2}[want])
}

// TestExamples: the chapter's examples.
func TestExamples(t *testing.T) {
	first := "system M reads Vel writes Pos { Pos.x = Pos.x + Vel.x; emit me, tick; }"
	wantRun(t, "M1", first, env(), 2, "{1 [9]}", "", "{0 {3 1} 3 5}")
	wantSteps(t, "system M { let i = 0; while i < 3 { i = i + 1; } }", 8)
	wantRun(t, "M2", "system M { repeat 2 { die; } }", env(), 5, "", "{2 {3 1} 0 [] []} {2 {3 1} 0 [] []}", "")
	wantCut(t, "M2", "system M { while 1 == 1 { } }", env(), api.ErrFuel, 2001)
	wantCut(t, "M2", "system M { repeat 17 { emit 0, 0; } }", env(), api.ErrLong, 35)
	wantSteps(t, "func f(a) { return a * 2; } system M { if f(1) == 2 || f(2) == 0 { } }", 3)
	e := env()
	e.Row.Parts = e.Row.Parts[1:]
	wantCut(t, "M2", first, e, api.ErrAccess, 1)
}

// TestNoSuchSystem: M1, an Outcome with ErrSystem, else zero.
func TestNoSuchSystem(t *testing.T) {
	for src, systems := range map[string]int{
		"":                          0,
		"func f() { }":              0,
		"system M { die; }":         1,
		"system M { } func f() { }": 1,
		"system A { } func f() { } system B { die; } system C { }": 3,
	} {
		c := checked(t, src)
		for _, system := range []int{math.MinInt, -2, -1, 0, 1, 2, 3, 4, 15, 16, math.MaxInt} {
			o := walk.Run(c, system, env())
			if system >= 0 && system < systems {
				if o.Err != api.OK {
					t.Errorf("M1: %q: system %d: error %d", src, system, o.Err)
				}
				continue
			}
			if o.Err != api.ErrSystem || o.Steps != 0 {
				t.Errorf("M1: %q: system %d, which is none: %s", src, system, tell(o))
			}
			wantNothing(t, src, o)
		}
	}
}

// TestWhichSystem: M1, systems are numbered in their order in the source, whatever functions stand between them; the number is told in events.
func TestWhichSystem(t *testing.T) {
	c := checked(t, "func f() { return 10; } system A { emit f(), g(); } func g() { return 20; } system B { emit 1, g(); stop; } system C with Mark { emit 2, 2; }")
	for system, want := range []string{"[{0 {3 1} 10 20}]", "[{1 {3 1} 1 20}]", "[{2 {3 1} 2 2}]"} {
		e := env()
		e.System = 7 // which system it is says the number that is handed in
		if got := fmt.Sprint(walk.Run(c, system, e).Events); got != want {
			t.Errorf("M1: system %d tells %s, want %s", system, got, want)
		}
	}
}

// TestWhoIsAsked: M1, the clauses say whom a frame runs a system for; a run itself does not ask.
func TestWhoIsAsked(t *testing.T) {
	wantRun(t, "M1", "system M with Mark without Pos, Vel reads Box writes Pair { die; }", env(), 1, "", "{2 {3 1} 0 [] []}", "")
}

// TestVariables: all are 0 at first, each call has its own, and parameters are the arguments.
func TestVariables(t *testing.T) {
	for _, row := range []struct{ src, events string }{
		{"system M { let a = 1; let b = a + 1; a = b * 10; emit a, b; }", "{0 {3 1} 20 2}"},
		{"system M { let a = 1; repeat 3 { let b = a; a = a + b; } emit a, 0; }", "{0 {3 1} 8 0}"},
		{"system M { let a = 5; repeat a { a = a - 1; } emit a, 1; }", "{0 {3 1} 0 1}"},
		{"system M { let a = 5; repeat 2 { repeat 3 { a = a + 1; } } emit a, 1; }", "{0 {3 1} 11 1}"},
		{"func f(a, b, c, d) { return a * 1000 + b * 100 + c * 10 + d; } system M { let x = 9; emit f(1, 2, 3, 4), x; }", "{0 {3 1} 1234 9}"},
		{"func f(a) { a = a + 1; return a; } system M { let x = 4; let y = f(x); emit x, y; }", "{0 {3 1} 4 5}"},
		{"func f(a) { let b = a; let c = g(b); return b * 10 + c; } func g(a) { let b = 7; a = 8; return b; } system M { let z = 3; emit f(z), z; }", "{0 {3 1} 37 3}"},
		{"func f(a) { let n = 0; n = n + a; return n; } system M { emit f(1), f(2); emit f(0), f(f(5)); }", "{0 {3 1} 1 2} {0 {3 1} 0 5}"},
		{"func f(a) { if a == 0 { let n = 5; } let m = 0; return m; } system M { emit f(0), f(1); }", "{0 {3 1} 0 0}"},
	} {
		o := run(t, row.src)
		if got := fmt.Sprint(o.Events); o.Err != api.OK || got != "["+row.events+"]" {
			t.Errorf("M2: %s: %s, want the events %s", row.src, tell(o), row.events)
		}
	}
}

// TestSetField: M2, what is written is there at once; E is taken ahead of asking for the part.
func TestSetField(t *testing.T) {
	wantRun(t, "M2", "system M writes Pos { Pos.x = 1; Pos.x = Pos.x + Pos.x; emit Pos.x, 0; Pos.x = Pos.x * 5; }", env(), 4, "{1 [10]}", "", "{0 {3 1} 2 0}")
	e := env()
	e.Row.Parts = append(e.Row.Parts, api.Part{Kind: 4, Values: []int64{1, 2, 3, 4}})
	wantRun(t, "M2", "system M reads Vel writes Box { Box.x = Box.a; Box.a = Box.c * 10; Box.b = Vel.x; }", e, 3, "{4 [30 2 3 1]}", "", "")
	wantCut(t, "M2", "func f() { return 1; } system M writes Box { Box.a = f(); }", env(), api.ErrAccess, 3)
	wantCut(t, "M2", "func f() { while 1 == 1 { } } system M writes Box { Box.a = f(); }", env(), api.ErrFuel, 2001)
}

// TestMissingValues: M2 and M3, a part that is missing, or a value that it has not.
func TestMissingValues(t *testing.T) {
	for has := -1; has <= 5; has++ { // -1: no part
		e := env()
		if has >= 0 {
			e.Row.Parts = append(e.Row.Parts, api.Part{Kind: 4, Values: []int64{10, 11, 12, 13, 14}[:has]})
		}
		for field, name := range []string{"a", "b", "c", "x"} {
			reads := "system M reads Box { die; emit 1, Box." + name + "; }"
			writes := "system M writes Box { Box." + name + " = 50; emit 1, Box." + name + "; }"
			if field >= has {
				wantCut(t, "M3", reads, e, api.ErrAccess, 2)
				wantCut(t, "M2", writes, e, api.ErrAccess, 1)
				continue
			}
			wantRun(t, "M3", reads, e, 2, "", "{2 {3 1} 0 [] []}", fmt.Sprintf("{0 {3 1} 1 %d}", 10+field))
			after := []int64{10, 11, 12, 13, 14}[:has]
			after[field] = 50
			wantRun(t, "M2", writes, e, 2, fmt.Sprintf("{4 %v}", after), "", "{0 {3 1} 1 50}")
		}
	}
}

// TestIf: M2, which way is gone, and what it costs.
func TestIf(t *testing.T) {
	for _, row := range []struct {
		src    string
		steps  int
		events string
	}{
		{"if 1 == 1 { emit 1, 0; }", 2, "{0 {3 1} 1 0}"},
		{"if 1 == 2 { emit 1, 0; }", 1, ""},
		{"if 1 == 1 { emit 1, 0; } else { emit 2, 0; }", 2, "{0 {3 1} 1 0}"},
		{"if 1 == 2 { emit 1, 0; } else { emit 2, 0; }", 2, "{0 {3 1} 2 0}"},
		{"if 1 == 2 { } else { emit 2, 0; emit 3, 0; }", 3, "{0 {3 1} 2 0} {0 {3 1} 3 0}"},
		{"if 1 == 1 { emit 1, 0; } else if 1 == 1 { emit 2, 0; } else { emit 3, 0; }", 2, "{0 {3 1} 1 0}"},
		{"if 1 == 2 { emit 1, 0; } else if 1 == 1 { emit 2, 0; } else { emit 3, 0; }", 3, "{0 {3 1} 2 0}"},
		{"if 1 == 2 { emit 1, 0; } else if 1 == 2 { emit 2, 0; } else { emit 3, 0; }", 3, "{0 {3 1} 3 0}"},
		{"if 1 == 2 { emit 1, 0; } else if 1 == 2 { emit 2, 0; }", 2, ""},
		{"if 1 == 2 { } else if 1 == 2 { } else if 1 == 2 { } else if 1 == 1 { emit 4, 0; }", 5, "{0 {3 1} 4 0}"},
		{"if 1 == 1 { if 1 == 2 { } else { emit 5, 0; } } emit 6, 0;", 4, "{0 {3 1} 5 0} {0 {3 1} 6 0}"},
	} {
		wantRun(t, "M2", "system M { "+row.src+" }", env(), row.steps, "", "", row.events)
	}
}

// TestWhile: M2, the truth is asked ahead of each turn, and once more behind the last.
func TestWhile(t *testing.T) {
	wantSteps(t, "system M { while 1 == 2 { die; } }", 1)
	wantSteps(t, "func f(a) { return a; } system M { while f(1) == 2 { die; } }", 3)
	wantSteps(t, "func f(a) { return a; } system M { let i = 0; while f(i) < 2 { i = i + 1; } }", 2+3*2+2*2)
	wantRun(t, "M2", "system M writes Pos { while Pos.x > 4 { Pos.x = Pos.x - 1; } }", env(), 7, "{1 [4]}", "", "")
	wantRun(t, "M2", "system M { let i = 0; while i < 2 { let k = 0; while k < 2 { emit i, k; k = k + 1; } i = i + 1; } }", env(),
		2+2*(1+1+1+2*3+1), "", "", "{0 {3 1} 0 0} {0 {3 1} 0 1} {0 {3 1} 1 0} {0 {3 1} 1 1}")
	wantSteps(t, "system M { while 1 == 1 { stop; } }", 3)
	wantSteps(t, "system M { let i = 0; while 1 == 1 { i = i + 1; if i == 3 { stop; } } }", 2+3*3+1)
}

// TestRepeat: M2, how often is asked once.
func TestRepeat(t *testing.T) {
	for _, row := range []struct {
		count string
		turns int
	}{
		{"0", 0}, {"1", 1}, {"2", 2}, {"7", 7}, {"-1", 0}, {"-5", 0}, {"-9223372036854775807 - 1", 0}, {"-9223372036854775807", 0}, {"Pos.x", 7},
	} {
		wantSteps(t, "system M reads Pos { repeat "+row.count+" { } }", 1+row.turns)
		wantSteps(t, "system M reads Pos { let a = 0; repeat "+row.count+" { a = a + 1; } }", 2+2*row.turns)
	}
	wantSteps(t, "func f() { return 3; } system M { repeat f() { } }", 1+2+3)
	wantRun(t, "M2", "system M writes Pos { repeat Pos.x { Pos.x = Pos.x - 2; } }", env(), 15, "{1 [-7]}", "", "")
	wantRun(t, "M2", "system M { let i = 0; repeat 2 { i = i + 1; repeat i { emit i, 0; } } }", env(), 2+2+2+2+3*2, "", "", "{0 {3 1} 1 0} {0 {3 1} 2 0} {0 {3 1} 2 0}")
	wantSteps(t, "system M { repeat 9 { stop; } }", 3)
	wantSteps(t, "system M { repeat 9 { repeat 9 { stop; } } die; }", 5)
	for _, many := range []string{"9223372036854775807", "2147483648", "4294967296"} {
		wantCut(t, "M2", "system M { repeat "+many+" { } }", env(), api.ErrFuel, 2001)
	}
}

// TestEmit: M2, the system, the entity, and both numbers, from left to right.
func TestEmit(t *testing.T) {
	d := dice.New(11, 5, 0, 3)
	a, b := d.Below(1000), d.Below(1000)
	wantRun(t, "M2", "system M { emit rand(1000), rand(1000); }", env(), 1, "", "", fmt.Sprintf("{0 {3 1} %d %d}", a, b))
	e := env()
	e.Row.E = api.Entity{Index: -4, Gen: 99}
	wantRun(t, "M2", "system M { emit 1, me; emit -1, 2; }", e, 2, "", "", "{0 {-4 99} 1 -4} {0 {-4 99} -1 2}")
}

// TestCommands: M2, what stands in each; all else is zero.
func TestCommands(t *testing.T) {
	for _, row := range []struct{ statement, command string }{
		{"spawn;", "{1 {0 0} 0 [] []}"},
		{"spawn Mark{};", "{1 {0 0} 0 [] [{3 []}]}"},
		{"spawn Pos{};", "{1 {0 0} 0 [] [{1 [0]}]}"},
		{"spawn Box{};", "{1 {0 0} 0 [] [{4 [0 0 0 0]}]}"},
		{"spawn Box{b: 1};", "{1 {0 0} 0 [] [{4 [0 1 0 0]}]}"},
		{"spawn Box{a: 1, b: 2, c: 3, x: 4};", "{1 {0 0} 0 [] [{4 [1 2 3 4]}]}"},
		{"spawn Pair{b: 2}, Box{x: Pos.x}, Mark{}, Vel{x: me}, Pos{x: tick};", "{1 {0 0} 0 [] [{1 [5]} {2 [3]} {3 []} {4 [0 0 0 7]} {5 [0 2]}]}"},
		{"add Mark{};", "{3 {3 1} 3 [] []}"},
		{"add Pos{};", "{3 {3 1} 1 [0] []}"},
		{"add Box{b: 5, x: 6};", "{3 {3 1} 4 [0 5 0 6] []}"},
		{"remove Mark;", "{4 {3 1} 3 [] []}"},
		{"remove Pair;", "{4 {3 1} 5 [] []}"},
		{"die;", "{2 {3 1} 0 [] []}"},
	} {
		wantRun(t, "M2", "system M reads Pos { "+row.statement+" }", env(), 1, "", row.command, "")
	}
	wantRun(t, "M2", "system M { die; spawn; add Mark{}; remove Mark; die; }", env(), 5, "",
		"{2 {3 1} 0 [] []} {1 {0 0} 0 [] []} {3 {3 1} 3 [] []} {4 {3 1} 3 [] []} {2 {3 1} 0 [] []}", "")
}

// TestCommandsWait: M2, a command changes nothing in the run that tells it.
func TestCommandsWait(t *testing.T) {
	src := "system M writes Pos { remove Pos; add Mark{}; die; Pos.x = Pos.x + 1; emit has(Pos) ? 1 : 0, has(Mark) ? 1 : 0; }"
	wantRun(t, "M2", src, env(), 5, "{1 [8]}", "{4 {3 1} 1 [] []} {3 {3 1} 3 [] []} {2 {3 1} 0 [] []}", "{0 {3 1} 1 0}")
	wantCut(t, "M2", "system M writes Box { add Box{a: 1}; Box.a = 2; }", env(), api.ErrAccess, 2)
}

// TestOrderOfParts: M2, values are taken in the order of the source, part by part, though parts stand by rising kinds.
func TestOrderOfParts(t *testing.T) {
	d := dice.New(11, 5, 0, 3)
	var r []int64
	for range 5 {
		r = append(r, d.Below(1000))
	}
	wantRun(t, "M2", "system M { spawn Box{b: rand(1000), x: rand(1000)}, Pos{x: rand(1000)}; add Pair{a: rand(1000), b: rand(1000)}; }", env(), 2, "",
		fmt.Sprintf("{1 {0 0} 0 [] [{1 [%d]} {4 [0 %d 0 %d]}]} {3 {3 1} 5 [%d %d] []}", r[2], r[0], r[1], r[3], r[4]), "")
}

// TestStop: M2, the run ends, and what it has done by then stands.
func TestStop(t *testing.T) {
	wantRun(t, "M2", "system M writes Pos { Pos.x = 1; emit 1, 1; die; stop; Pos.x = 2; emit 2, 2; die; }", env(), 4, "{1 [1]}", "{2 {3 1} 0 [] []}", "{0 {3 1} 1 1}")
	wantSteps(t, "system M { stop; stop; }", 1)
	wantSteps(t, "system M { if 1 == 1 { stop; } die; }", 2)
	wantSteps(t, "system M { if 1 == 2 { } else { stop; } die; }", 2)
	wantSteps(t, "system M { if 1 == 2 { } else if 1 == 1 { stop; } die; }", 3)
	wantSteps(t, "system M { if 1 == 1 { while 1 == 1 { repeat 2 { if 1 == 1 { stop; } } } } die; }", 7)
}

// TestReturn: M2, the call ends, with this value; without a return it is 0.
func TestReturn(t *testing.T) {
	for _, row := range []struct {
		body  string
		want  int64
		steps int
	}{
		{"", 0, 0},
		{"let b = 5;", 0, 1},
		{"return 7;", 7, 1},
		{"return a; return 9;", 2, 1},
		{"return -a;", -2, 1},
		{"if a == 2 { return 1; } return 2;", 1, 2},
		{"if a == 3 { return 1; } return 2;", 2, 2},
		{"if a == 3 { return 1; } else { return 3; } return 2;", 3, 2},
		{"if a == 3 { return 1; } else if a == 2 { return 4; } return 2;", 4, 3},
		{"if a == 3 { return 1; }", 0, 1},
		{"while 1 == 1 { a = a + 1; if a == 5 { return a; } }", 5, 1 + 3*3 + 1},
		{"repeat 9 { a = a + 1; if a == 5 { return a; } } return 1;", 5, 1 + 3*3 + 1},
		{"repeat 2 { repeat 2 { return 8; } }", 8, 5},
		{"repeat 2 { while 1 == 1 { while 1 == 1 { return 8; } } } return 1;", 8, 7},
	} {
		src := "func f(a) { " + row.body + " } system M { emit f(2), 5; die; }"
		wantRun(t, "M2", src, env(), 1+1+row.steps+1, "", "{2 {3 1} 0 [] []}", fmt.Sprintf("{0 {3 1} %d 5}", row.want))
	}
}

// TestCalls: M3, the arguments from left to right, then a step, then the block.
func TestCalls(t *testing.T) {
	wantNumber(t, "zero()", 0)
	wantNumber(t, "id(-4)", -4)
	wantNumber(t, "two(2, 3)", 23)
	wantNumber(t, "two(two(1, 2), two(3, 4))", 154)
	wantNumber(t, "id(v) + id(v + 1)", 13)
	wantSteps(t, "func f() { } system M { let a = f(); }", 2)
	wantSteps(t, "func f() { } system M { let a = f() + f() * f(); }", 4)
	wantSteps(t, "func f(a) { } system M { let a = f(f(f(1))); }", 4)
	wantSteps(t, "func f() { return g(); } func g() { return h() + h(); } func h() { } system M { let a = f(); }", 1+2+2+2)
	d := dice.New(11, 5, 0, 3)
	a, b, c := d.Below(900), d.Below(100), d.Below(7)
	wantRun(t, "M3", "func f(a, b) { return a * 1000 + b * 10 + rand(7); } system M { emit f(rand(900), rand(100)), 0; }", env(), 3, "", "", fmt.Sprintf("{0 {3 1} %d 0}", a*1000+b*10+c))
}

// TestNumbers: M3 and the language's arithmetic.
func TestNumbers(t *testing.T) {
	const least, most = -1 << 63, 1<<63 - 1
	for expression, want := range map[string]int64{
		"0": 0, "12": 12, "9223372036854775807": most, "v": 6, "Pos.x": 7, "Vel.x": 2, "tick": 5, "me": 3,
		"1 + 2 * 3 - 4": 3, "10 - 3 - 2": 5, "10 - (3 - 2)": 9, "100 / 10 / 5": 2, "2 * 7 % 4": 2,
		"7 / 2": 3, "-7 / 2": -3, "7 / -2": -3, "-7 / -2": 3, "7 % 2": 1, "-7 % 2": -1, "7 % -2": 1, "-7 % -2": -1,
		"5 / 0": 0, "5 % 0": 0, "0 / 0": 0, "0 % 0": 0, "-5 / 0": 0, "-5 % 0": 0, "5 / (2 - 2)": 0, "0 / 5": 0,
		"9223372036854775807 + 1": least, "-9223372036854775807 - 2": most, "9223372036854775807 * 2": -2,
		"(-9223372036854775807 - 1) / -1": least, "(-9223372036854775807 - 1) % -1": 0, "(-9223372036854775807 - 1) * -1": least,
		"-(-9223372036854775807 - 1)": least, "- - 6": 6, "-v": -6, "- - -v": -6,
		"abs(4)": 4, "abs(-4)": 4, "abs(0)": 0, "abs(-9223372036854775807 - 1)": least, "abs(-9223372036854775807)": most,
		"min(3, -3)": -3, "min(-3, 3)": -3, "min(2, 2)": 2, "max(3, -3)": 3, "max(-3, 3)": 3, "max(2, 2)": 2,
		"min(9223372036854775807, -9223372036854775807 - 1)": least, "max(9223372036854775807, -9223372036854775807 - 1)": most,
		"1 == 1 ? 10 : 20": 10, "1 == 2 ? 10 : 20": 20, "1 < 2 ? 3 < 2 ? 4 : 5 : 6": 5, "(1 == 2 ? 1 : 0) + 5": 5,
	} {
		wantNumber(t, expression, want)
	}
}

// TestTruths: M3, comparisons and what is made of truths.
func TestTruths(t *testing.T) {
	for expression, want := range map[string]bool{
		"1 == 1": true, "1 == 2": false, "1 != 1": false, "1 != 2": true,
		"1 < 2": true, "2 < 2": false, "3 < 2": false, "1 <= 2": true, "2 <= 2": true, "3 <= 2": false,
		"1 > 2": false, "2 > 2": false, "3 > 2": true, "1 >= 2": false, "2 >= 2": true, "3 >= 2": true,
		"-1 < 0": true, "-9223372036854775807 - 1 < 9223372036854775807": true, "9223372036854775807 > -1": true,
		"!(1 == 1)": false, "!(1 == 2)": true, "!!(1 == 1)": true,
		"1 == 1 && 2 == 2": true, "1 == 1 && 2 == 1": false, "1 == 2 && 2 == 2": false, "1 == 2 && 2 == 1": false,
		"1 == 1 || 2 == 2": true, "1 == 1 || 2 == 1": true, "1 == 2 || 2 == 2": true, "1 == 2 || 2 == 1": false,
		"1 == 1 || 1 == 1 && 1 == 2": true, "(1 == 1 || 1 == 1) && 1 == 2": false,
		"has(Pos)": true, "has(Vel)": true, "has(Mark)": false, "has(Box)": false, "!has(Pair)": true,
		"(1 == 1 ? 1 == 2 : 1 == 1)": false, "(1 == 2 ? 1 == 2 : 1 == 1)": true,
	} {
		wantTruth(t, expression, want)
	}
}

// TestWhatIsTaken: M3, of `&&`, `||` and Cond only what must be is taken; of all else everything, just once.
func TestWhatIsTaken(t *testing.T) {
	// f is true, g is false; each costs two steps.
	for expression, calls := range map[string]int{
		"f() == 1": 1, "f() + f() == 2": 2, "f() - f() * f() / f() == f() % f()": 6, "!(f() == 1)": 1, "-f() == f()": 2,
		"f() == 1 && f() == 1": 2, "g() == 1 && f() == 1": 1, "f() == 1 && g() == 1": 2,
		"f() == 1 || f() == 1": 1, "g() == 1 || f() == 1": 2, "g() == 1 || g() == 1": 2,
		"f() == 1 || f() == 1 || f() == 1": 1, "g() == 1 && f() == 1 && f() == 1": 1, "g() == 1 && f() == 1 || f() == 1": 2,
		"f() == 1 || f() == 1 && f() == 1": 1, "f() == 1 && (f() == 1 || f() == 1)": 2,
		"f() == 1 ? f() == 1 : f() + f() == 1": 2, "g() == 1 ? f() == 1 : f() + f() == 1": 3, "(f() == 1 ? 1 : f()) == 1": 1, "(g() == 1 ? 1 : f()) == 1": 2,
		"min(f(), f()) == 1": 2, "max(f(), g()) == 1": 2, "abs(f()) == 1": 1, "input(f(), f()) == 1": 2, "rand(f()) == 1": 1,
		"0 * f() == 0": 1, "f() / 0 == 0": 1, "0 / f() == 0": 1, "0 == 1 && f() == 1": 0, "h(f(), f()) == 1": 3, "h(h(f(), 1), f()) == 1": 4,
	} {
		src := "func f() { return 1; } func g() { return 0; } func h(a, b) { return a; } system M { if " + expression + " { } }"
		wantSteps(t, src, 1+2*calls)
	}
	// What is not taken is not cut off, and does not roll.
	d := dice.New(11, 5, 0, 3)
	want := d.Below(1000)
	for _, expression := range []string{
		"1 == 2 && Box.a == rand(3)", "1 == 1 || Box.a == rand(3)", "(1 == 1 ? 1 : Box.a + rand(3)) == 1", "(1 == 2 ? Box.a + rand(3) : 1) == 1",
	} {
		wantRun(t, "M3", "system M reads Box { if "+expression+" { } emit 0, rand(1000); }", env(), 2, "", "", fmt.Sprintf("{0 {3 1} 0 %d}", want))
	}
}

// TestRand: M3, one dice for the whole run, of the seed, the frame, the system and the entity's index.
func TestRand(t *testing.T) {
	rolls := "{ emit rand(1000), r(1000); emit rand(0), rand(-5); emit rand(9223372036854775807), rand(1); emit r(3), rand(6); }"
	c := checked(t, "func r(n) { return rand(n); } system A "+rolls+" system B "+rolls)
	for _, seed := range []int64{0, 1, -1, 1 << 62} {
		for _, frame := range []int{0, 1, -7, 5000} {
			for system := range 2 {
				for _, who := range []api.Entity{{}, {Index: 5, Gen: 1}, {Index: 5, Gen: 2}, {Index: -3, Gen: 2}} {
					d := dice.New(seed, frame, system, who.Index)
					want := ""
					for _, n := range []int64{1000, 1000, 0, -5, 1<<63 - 1, 1, 3, 6} {
						want += fmt.Sprint(" ", d.Below(n))
					}
					o := walk.Run(c, system, api.Env{Seed: seed, Frame: frame, System: 9, Row: api.Row{E: who}})
					got := ""
					for _, event := range o.Events {
						got += fmt.Sprint(" ", event.Code, " ", event.Value)
					}
					if got != want {
						t.Errorf("M3: rand of %d, %d, %d, %v: %s, want %s", seed, frame, system, who, got, want)
					}
				}
			}
		}
	}
}

// TestInput: M3, the last one of the player and the key; 0, if there is none.
func TestInput(t *testing.T) {
	e := env()
	for _, i := range [][3]int{{1, 2, 3}, {1, 2, 4}, {2, 1, 8}, {0, 7, 70}, {-1, -2, 9}, {5, 5, 1}, {5, 5, 0}, {2, 1, -6}, {1, 3, 5}} {
		e.Inputs = append(e.Inputs, api.Input{Player: i[0], Key: i[1], Value: int64(i[2])})
	}
	for asked, want := range map[string]int64{
		"1, 2": 4, "2, 1": -6, "0, 7": 70, "7, 0": 0, "-1, -2": 9, "5, 5": 0, "1, 3": 5, "0, 0": 0, "3, 1": 0, "1, 1": 0, "2, 2": 0,
		"4294967297, 2": 0, "1, 4294967298": 0, "-9223372036854775807 - 1, 9223372036854775807": 0, "tick, tick": 0, "me - 2, 2 * 1": 4,
	} {
		wantRun(t, "M3", "system M { emit 0, input("+asked+"); }", e, 1, "", "", fmt.Sprintf("{0 {3 1} 0 %d}", want))
	}
	wantNumber(t, "input(1, 2)", 0)
}

// TestWords: M3, tick and me, in functions, too.
func TestWords(t *testing.T) {
	c := checked(t, "func f() { return tick * 1000 + me; } system M { emit tick, me; emit f(), 0; }")
	for _, frame := range []int{0, 1, 77, -3} {
		for _, index := range []int{0, 1, 199, -8} {
			o := walk.Run(c, 0, api.Env{Frame: frame, Row: api.Row{E: api.Entity{Index: index, Gen: 44}}})
			if o.Events[0].Code != int64(frame) || o.Events[0].Value != int64(index) || o.Events[1].Code != int64(frame*1000+index) {
				t.Errorf("M3: tick %d, me %d: %s", frame, index, tell(o))
			}
		}
	}
}

// TestHas: M3, whether the row has a part of the kind, of whatever values, seen by the system or not.
func TestHas(t *testing.T) {
	c := checked(t, "system M { emit has(Pos) ? 1 : 0, has(Vel) ? 1 : 0; emit has(Mark) ? 1 : 0, has(Box) ? 1 : 0; emit has(Pair) ? 1 : 0, 0; }")
	for set := range 32 {
		e := env()
		e.Row.Parts = []api.Part{{Kind: 0}, {Kind: -1}, {Kind: 6}, {Kind: 99}}
		var want []int64
		for kind := 1; kind <= 5; kind++ {
			want = append(want, int64(set>>(kind-1)&1))
			if want[kind-1] == 1 {
				e.Row.Parts = append(e.Row.Parts, api.Part{Kind: kind, Values: make([]int64, set%3)})
			}
		}
		var got []int64
		for _, event := range walk.Run(c, 0, e).Events {
			got = append(got, event.Code, event.Value)
		}
		if fmt.Sprint(got) != fmt.Sprint(append(want, 0)) {
			t.Errorf("M3: has of the set %b: %v", set, got)
		}
	}
}

// TestFirstPartCounts: of a kind that stands twice in a row the first part counts, for all that asks it.
func TestFirstPartCounts(t *testing.T) {
	e := env()
	e.Row.Parts = []api.Part{{Kind: 9, Values: []int64{1}}, {Kind: 4, Values: []int64{5}}, {Kind: 1, Values: []int64{40, 50}}, {Kind: 1, Values: []int64{7}}, {Kind: 4, Values: []int64{1, 2, 3, 4}}, {Kind: 1}}
	wantRun(t, "M4", "system M writes Pos { Pos.x = Pos.x + 1; }", e, 1, "{1 [41 50]}", "", "")
	wantRun(t, "M4", "system M writes Box, Pos { Box.a = Pos.x; }", e, 1, "{1 [40 50]} {4 [40]}", "", "")
	wantCut(t, "M2", "system M writes Box { Box.b = 1; }", e, api.ErrAccess, 1)
	wantCut(t, "M3", "system M reads Box { emit 1, Box.x; }", e, api.ErrAccess, 1)
	e.Row.Parts[2].Values = nil
	wantCut(t, "M3", "system M reads Pos { emit 1, Pos.x; }", e, api.ErrAccess, 1)
	wantRun(t, "M4", "system M writes Pos { emit has(Pos) ? 1 : 0, 0; }", e, 1, "{1 []}", "", "{0 {3 1} 1 0}")
}

// TestValues: M4, the parts of `writes` that the entity has, rising, each once, with all their values, written or not.
func TestValues(t *testing.T) {
	e := env()
	e.Row.Parts = []api.Part{{Kind: 5, Values: []int64{50, 51, 52}}, {Kind: 3}, {Kind: 2, Values: []int64{2}}, {Kind: 1, Values: []int64{7}}, {Kind: 77, Values: []int64{7}}}
	for _, row := range []struct{ src, values string }{
		{"system M { }", ""},
		{"system M with Pos reads Vel { }", ""},
		{"system M writes Pos { }", "{1 [7]}"},
		{"system M writes Pos { stop; }", "{1 [7]}"},
		{"system M writes Box { }", ""},
		{"system M writes Mark { }", "{3 []}"},
		{"system M writes Pair, Box, Mark, Pos { Pair.b = 9; }", "{1 [7]} {3 []} {5 [50 9 52]}"},
		{"system M reads Pair writes Vel, Pos { Vel.x = Pair.a; }", "{1 [7]} {2 [50]}"},
		{"system M writes Vel, Pair, Pos { Pair.a = Pair.b; Pos.x = Pair.a; Vel.x = Pos.x + Vel.x; }", "{1 [51]} {2 [53]} {5 [51 51 52]}"},
	} {
		o := walk.Run(checked(t, row.src), 0, e)
		if got := fmt.Sprint(o.Values); o.Err != api.OK || got != "["+row.values+"]" {
			t.Errorf("M4: %s: %s, want %s", row.src, tell(o), row.values)
		}
	}
}
