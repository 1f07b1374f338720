package walk_test

import (
	"fmt"
	"strings"
	"testing"

	"hindcast/api"
	"hindcast/walk"
)

// burn is a statement that takes this many steps.
func burn(steps int) string { return fmt.Sprintf("repeat %d { } ", steps-1) }

// TestFuel: M2 and M3, the step above MaxFuel cuts off, wherever it is counted: ahead of a statement, a turn, a call.
func TestFuel(t *testing.T) {
	const funcs = "func f(a) { } func g(a) { return a; } func h(a) { return g(a); } "
	for _, row := range []struct {
		statement string
		steps     int
	}{
		{"let a = 1;", 1}, {"let a = f(1);", 2}, {"let a = g(1);", 3}, {"let a = h(1);", 5}, {"let a = g(g(1)) + f(2);", 6},
		{"Pos.x = 1;", 1}, {"Pos.x = g(1);", 3},
		{"if 1 == 1 { }", 1}, {"if 1 == 2 { } else { die; }", 2}, {"if 1 == 2 { } else if 1 == 1 { }", 2}, {"if g(1) == 1 { die; }", 4},
		{"while 1 == 2 { }", 1}, {"while g(1) == 2 { }", 3}, {"while Pos.x == 7 { Pos.x = 6; }", 3}, {"let i = 0; while g(i) < 2 { i = i + 1; }", 12},
		{"repeat 0 { }", 1}, {"repeat 1 { }", 2}, {"repeat 3 { die; }", 7}, {"repeat g(2) { repeat 2 { } }", 3 + 2*(1+3)},
		{"emit 1, 1;", 1}, {"emit g(1), f(1);", 4},
		{"spawn;", 1}, {"spawn Box{b: g(1)}, Pos{x: g(1)};", 5}, {"add Mark{};", 1}, {"add Pos{x: f(1)};", 2}, {"remove Pos;", 1}, {"die;", 1}, {"stop;", 1},
	} {
		for ahead := api.MaxFuel - row.steps - 1; ahead <= api.MaxFuel+1; ahead++ {
			src := funcs + "system M writes Pos { " + burn(ahead) + row.statement + " }"
			if ahead+row.steps > api.MaxFuel {
				wantCut(t, "M2", src, env(), api.ErrFuel, api.MaxFuel+1)
				continue
			}
			if o := run(t, src); o.Err != api.OK || o.Steps != ahead+row.steps || fmt.Sprint(o.Values) == "[]" {
				t.Errorf("M2: %s: %s, want %d steps", src, tell(o), ahead+row.steps)
			}
		}
	}
}

// TestFuelInFunctions: M3, a run has one count of steps, in functions, too.
func TestFuelInFunctions(t *testing.T) {
	for steps := api.MaxFuel - 2; steps <= api.MaxFuel+2; steps++ {
		src := "func f() { " + burn(steps-3) + "return 4; } system M { emit f(), 1; }"
		if steps > api.MaxFuel {
			wantCut(t, "M3", src, env(), api.ErrFuel, api.MaxFuel+1)
		} else {
			wantRun(t, "M3", src, env(), steps, "", "", "{0 {3 1} 4 1}")
		}
	}
	wantCut(t, "M3", "func f() { while 1 == 1 { } } system M { die; emit f(), 1; }", env(), api.ErrFuel, 2001)
	wantCut(t, "M3", "func f() { } system M { while f() == 0 { } }", env(), api.ErrFuel, 2001)
	wantCut(t, "M3", "func f() { repeat 40 { } return 1; } func g() { repeat 40 { let a = f(); } return 2; } system M { repeat 40 { let a = g(); } }", env(), api.ErrFuel, 2001)
}

// TestFuelBefore: what is cut off is cut off by the first reason that comes.
func TestFuelBefore(t *testing.T) {
	full := "repeat 16 { emit 0, 0; die; } " // 49 steps
	for _, row := range []struct {
		ahead  int // steps ahead of the statement
		src    string
		reason api.Errno
		steps  int
	}{
		{2000, "Box.a = 1;", api.ErrFuel, 2001}, {1999, "Box.a = 1;", api.ErrAccess, 2000}, {1998, "Box.a = f();", api.ErrFuel, 2001}, {1997, "Box.a = f();", api.ErrAccess, 2000},
		{2000, "emit 1, Box.a;", api.ErrFuel, 2001}, {1999, "emit 1, Box.a;", api.ErrAccess, 2000}, {1999, "emit f(), Box.a;", api.ErrFuel, 2001}, {1999, "emit Box.a, f();", api.ErrAccess, 2000},
		{2000, "emit 1, 1;", api.ErrFuel, 2001}, {1999, "emit 1, 1;", api.ErrLong, 2000}, {1998, "emit 1, f();", api.ErrFuel, 2001}, {1997, "emit 1, f();", api.ErrLong, 2000},
		{100, "emit 1, Box.a;", api.ErrAccess, 101}, {100, "emit f(), f();", api.ErrLong, 105}, {100, "emit 1, 1 / 0;", api.ErrLong, 101},
		{2000, "die;", api.ErrFuel, 2001}, {1999, "die;", api.ErrLong, 2000}, {1999, "remove Box;", api.ErrLong, 2000},
		{1998, "add Pos{x: f()};", api.ErrFuel, 2001}, {1997, "add Pos{x: f()};", api.ErrLong, 2000}, {100, "add Pos{x: Box.a};", api.ErrAccess, 101},
		{1998, "spawn Box{}, Pos{x: f()};", api.ErrFuel, 2001}, {1997, "spawn Box{}, Pos{x: f()};", api.ErrLong, 2000}, {100, "spawn Pos{x: f()}, Pair{a: Box.a};", api.ErrAccess, 103},
		{100, "let a = f() + Box.a + f();", api.ErrAccess, 103}, {100, "if Box.a == f() { }", api.ErrAccess, 101}, {100, "while f() == Box.a { }", api.ErrAccess, 103}, {100, "repeat Box.a { }", api.ErrAccess, 101},
		{100, "let a = abs(Box.a);", api.ErrAccess, 101}, {100, "let a = g(f(), Box.b);", api.ErrAccess, 103}, {100, "let a = 1 == 1 ? Box.c : 0;", api.ErrAccess, 101}, {100, "let a = 0 * Box.x;", api.ErrAccess, 101},
		{100, "let a = !(Box.x == 1) ? 1 : 0;", api.ErrAccess, 101}, {100, "let a = -Box.x;", api.ErrAccess, 101}, {100, "let a = f() == 1 && Box.x == 1 ? 1 : 0;", api.ErrAccess, 103},
	} {
		src := "func f() { return 1; } func g(a, b) { return a; } system M writes Box, Pos { " + full + burn(row.ahead-49) + row.src + " }"
		wantCut(t, "M2", src, env(), row.reason, row.steps)
	}
}

// TestOut: M1, MaxOut commands and MaxOut events are told; one more of either cuts off.
func TestOut(t *testing.T) {
	commands := []string{"spawn;", "spawn Pos{x: 1};", "add Mark{};", "add Pos{};", "remove Pos;", "die;"}
	for i, statement := range append(commands, "emit 1, 2;") {
		for count := 14; count <= 18; count++ {
			src := fmt.Sprintf("system M writes Pos { Pos.x = 1; repeat %d { %s } Pos.x = 2; }", count, statement)
			if count > api.MaxOut {
				wantCut(t, "M1", src, env(), api.ErrLong, 2+2*17)
				continue
			}
			o := run(t, src)
			told := len(o.Commands)
			if i == len(commands) {
				told = len(o.Events)
			}
			if o.Err != api.OK || told != count || len(o.Commands)+len(o.Events) != count || o.Steps != 3+2*count {
				t.Errorf("M1: %s: %s", src, tell(o))
			}
		}
	}
	mixture := strings.Join(commands, " ")
	wantCut(t, "M1", "system M { repeat 3 { "+mixture+" } }", env(), api.ErrLong, 1+3+17)
	o := run(t, "system M { repeat 2 { "+mixture+" repeat 8 { emit 1, 1; } } repeat 4 { die; } }")
	if o.Err != api.OK || len(o.Commands) != 16 || len(o.Events) != 16 {
		t.Errorf("M1: sixteen of both: %s", tell(o))
	}
	o = run(t, "system M { let i = 0; while i < 16 { emit i, -i; add Pos{x: i}; i = i + 1; } }")
	for i := range 16 {
		if o.Events[i].Code != int64(i) || o.Events[i].Value != int64(-i) || o.Commands[i].Values[0] != int64(i) {
			t.Errorf("M1: the order of what is told: %s", tell(o))
		}
	}
}

// TestManyVariables: as many as there may be, of a system and of functions.
func TestManyVariables(t *testing.T) {
	var lets, sum strings.Builder
	for i := range api.MaxLocals {
		fmt.Fprintf(&lets, "let v%d = %d; ", i, i*i)
		fmt.Fprintf(&sum, " + v%d", i)
	}
	src := "func f() { " + lets.String() + "v3 = 0; return 0" + sum.String() + "; } system M { " + lets.String() + "v31 = f(); emit v31, 0" + sum.String() + "; }"
	all := 0
	for i := range api.MaxLocals {
		all += i * i
	}
	inner := all - 9
	wantRun(t, "M2", src, env(), 32+2+1+34, "", "", fmt.Sprintf("{0 {3 1} %d %d}", inner, all-31*31+inner))
}

// TestManyMembers: sixteen systems, and sixteen functions that call one another in a row.
func TestManyMembers(t *testing.T) {
	var b strings.Builder
	for i := range 16 {
		if i < 15 {
			fmt.Fprintf(&b, "func f%d(a) { return f%d(a + 1) * 2; } ", i, i+1)
		} else {
			b.WriteString("func f15(a) { return a; } ")
		}
		fmt.Fprintf(&b, "system S%d { emit %d, f%d(0); } ", i, i, 15-i)
	}
	c := checked(t, b.String())
	for i := range 16 {
		o := walk.Run(c, i, env())
		want := api.Event{System: i, E: env().Row.E, Code: int64(i), Value: int64(i) << i}
		if o.Err != api.OK || len(o.Events) != 1 || o.Events[0] != want || o.Steps != 1+2*(i+1) {
			t.Errorf("M3: %d functions in a row: %s", i+1, tell(o))
		}
	}
}

// TestManyKinds: twelve kinds of four fields, each part in its place.
func TestManyKinds(t *testing.T) {
	var list []api.Kind
	var writes, parts []string
	e := env()
	e.Row.Parts = nil
	for i := range api.MaxKinds {
		list = append(list, api.Kind{Name: fmt.Sprintf("K%d", i), Fields: []string{"a", "b", "c", "d"}})
		writes = append(writes, fmt.Sprintf("K%d", (i*5+3)%12))
		parts = append(parts, fmt.Sprintf("K%d{a: %d, d: K%d.b}", (i*7+1)%12, (i*7+1)%12, i))
		e.Row.Parts = append(e.Row.Parts, api.Part{Kind: 12 - i, Values: []int64{int64(12-i) * 10, int64(12-i)*10 + 1, 2, 3}})
	}
	src := "system M writes " + strings.Join(writes, ", ") + " { K4.c = 99; spawn " + strings.Join(parts, ", ") + "; }"
	o := walk.Run(checkedFor(t, src, list), 0, e)
	if o.Err != api.OK || len(o.Values) != 12 || len(o.Commands) != 1 || len(o.Commands[0].Parts) != 12 {
		t.Fatalf("M4: %s", tell(o))
	}
	for i := range 12 {
		kind := int64(i + 1)
		want := []int64{kind * 10, kind*10 + 1, 2, 3}
		if i == 4 {
			want[2] = 99
		}
		if got := o.Values[i]; got.Kind != i+1 || fmt.Sprint(got.Values) != fmt.Sprint(want) {
			t.Errorf("M4: the value %d is %v, want %v", i, got, want)
		}
		from := int64((i + 11) * 7 % 12) // 7 times 7 is 1, by 12
		if got := o.Commands[0].Parts[i]; got.Kind != i+1 || fmt.Sprint(got.Values) != fmt.Sprint([]int64{int64(i), 0, 0, (from+1)*10 + 1}) {
			t.Errorf("M2: the part %d is %v", i, got)
		}
	}
}

// TestLongSources: P1, as much as a source may hold, in one expression and in many statements.
func TestLongSources(t *testing.T) {
	long := strings.Repeat("1 + ", 1900) + "1"
	wantRun(t, "M3", "system M { emit 0, "+long+"; }", env(), 1, "", "", "{0 {3 1} 0 1901}")
	wantCut(t, "M2", "system M { while "+long+" > 0 { } }", env(), api.ErrFuel, 2001)
	wantCut(t, "M2", "system M { while "+strings.Repeat("rand(9) + ", 700)+"1 > 0 { } }", env(), api.ErrFuel, 2001)
	deep := strings.Repeat("-(", 9) + "me" + strings.Repeat(")", 9)
	wantRun(t, "M3", "system M { emit 0, "+deep+"; }", env(), 1, "", "", "{0 {3 1} 0 -3}")
	blocks := strings.Repeat("if 1 == 1 { ", 19) + "die; " + strings.Repeat("} ", 19)
	wantRun(t, "M2", "system M { "+blocks+"}", env(), 20, "", "{2 {3 1} 0 [] []}", "")
	loops := strings.Repeat("repeat 1 { ", 19) + "stop; " + strings.Repeat("} ", 19)
	wantSteps(t, "system M { "+loops+"die; }", 39)
	chain := strings.Repeat("if 1 == 2 { } else ", 190) + "{ die; }"
	wantRun(t, "M2", "system M { "+chain+" }", env(), 191, "", "{2 {3 1} 0 [] []}", "")
	wantSteps(t, "system M { "+strings.Repeat("if has(Mark) { } ", 200)+"}", 200)
}

// TestLongRows: P1, a row and inputs that may be anything, however many; no ask looks through all of them anew.
func TestLongRows(t *testing.T) {
	e := env()
	e.Row.Parts = []api.Part{{Kind: 5, Values: make([]int64, 200000)}}
	for i := range 200000 {
		e.Row.Parts = append(e.Row.Parts, api.Part{Kind: i - 1000, Values: []int64{int64(i)}})
		e.Inputs = append(e.Inputs, api.Input{Player: i % 300, Key: i % 7, Value: int64(i)})
	}
	var last int64
	for i, input := range e.Inputs {
		if input.Player == 5 && input.Key == 5 {
			last = int64(i)
		}
	}
	asks := strings.Repeat("input(5, 5) + ", 500) + "0"
	o := walk.Run(checked(t, "system M reads Vel, Pos writes Pair { Pair.b = "+asks+"; emit Pos.x, Vel.x; }"), 0, e)
	if o.Err != api.OK || o.Events[0].Code != 1001 || o.Events[0].Value != 1002 {
		t.Fatalf("M3: a long row: error %d, events %v", o.Err, o.Events)
	}
	if len(o.Values) != 1 || len(o.Values[0].Values) != 200000 || o.Values[0].Values[1] != 500*last {
		t.Fatalf("M4: a long part: %d parts", len(o.Values))
	}
	wantCut(t, "M3", "system M reads Pair { while "+asks+" > Pair.a { } }", e, api.ErrFuel, 2001)
}
