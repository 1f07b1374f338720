package compile_test

import (
	"fmt"
	"strings"
	"testing"

	"hindcast/api"
	"hindcast/check"
	"hindcast/code"
	"hindcast/compile"
	"hindcast/syntax"
)

// kinds are those of the chapter's examples, and more.
func kinds() []api.Kind {
	return []api.Kind{
		{Name: "Pos", Fields: []string{"x"}},
		{Name: "Vel", Fields: []string{"x"}},
		{Name: "Mark"},
		{Name: "Box", Fields: []string{"a", "b", "c", "x"}},
		{Name: "Pair", Fields: []string{"a", "b"}},
	}
}

func checked(t testing.TB, src string) *check.Checked {
	t.Helper()
	return checkedFor(t, src, kinds())
}

func checkedFor(t testing.TB, src string, list []api.Kind) *check.Checked {
	t.Helper()
	n, err := syntax.Parse(src)
	if err != nil {
		t.Fatalf("the test's own source %.2000q: %v", src, err)
	}
	c, err := check.Check(n, list)
	if err != nil {
		t.Fatalf("the test's own source %.2000q: %v", src, err)
	}
	return c
}

// words are instructions, as the chapter writes them.
func words(list []api.Instr) string {
	_, lines, _ := strings.Cut(code.List(api.Routine{Name: "r", Code: list}), "\n")
	return strings.ReplaceAll(strings.TrimSpace(lines), "\n", ", ")
}

func compiled(t testing.TB, src string) api.Program {
	t.Helper()
	p, e := compile.Compile(checked(t, src))
	if e != api.OK {
		t.Fatalf("X1: %.2000s: error %d", src, e)
	}
	return p
}

// wantSystem asks for the code of the first system.
func wantSystem(t *testing.T, src string, want string) {
	t.Helper()
	if got := words(compiled(t, src).Systems[0].Run.Code); got != want {
		t.Errorf("X1: %s\ngot  %s\nwant %s", src, got, want)
	}
}

// wantFunc asks for the code of the first function.
func wantFunc(t *testing.T, src string, want string) {
	t.Helper()
	if got := words(compiled(t, src).Funcs[0].Code); got != want {
		t.Errorf("X1: %s\ngot  %s\nwant %s", src, got, want)
	}
}

// wantRefused asks for an error, and the empty program beside it.
func wantRefused(t *testing.T, what string, c *check.Checked, want api.Errno) {
	t.Helper()
	p, e := compile.Compile(c)
	if e != want || p.Systems != nil || p.Funcs != nil {
		t.Errorf("X1: %.300s: error %d, %d systems, %d functions, want error %d alone", what, e, len(p.Systems), len(p.Funcs), want)
	}
}

// TestExamples: X1, those of the chapter.
func TestExamples(t *testing.T) {
	wantSystem(t, "system M reads Vel writes Pos { Pos.x = Pos.x + Vel.x; }", "step, field 8, field 16, add, put 8, stop")
	wantSystem(t, "system M { let i = 0; while i < 3 { i = i + 1; } }", "step, push 0, store 0, step, load 0, push 3, lt, zero 15, step, step, load 0, push 1, add, store 0, jump 4, stop")
	wantSystem(t, "system M { spawn Vel{x: me}, Pos{}; }", "step, me, push 0, part 9, part 17, spawn, stop")
	wantFunc(t, "func f(a) { return a; }", "step, load 0, ret, push 0, ret")
	wantFunc(t, "func twice(n) { return n * 2; }", "step, load 0, push 2, mul, ret, push 0, ret") // of the whole's examples
}

// TestNothing: X1, nil is refused; a program of nothing has nothing.
func TestNothing(t *testing.T) {
	wantRefused(t, "nil", nil, api.ErrArg)
	for _, src := range []string{"", " // no\n"} {
		if p := compiled(t, src); len(p.Systems) != 0 || len(p.Funcs) != 0 {
			t.Errorf("X1: of nothing: %v", p)
		}
	}
	wantSystem(t, "system M { }", "stop")
	wantFunc(t, "func f() { }", "push 0, ret")
}

// TestStatements: X1, each row of the table.
func TestStatements(t *testing.T) {
	for _, row := range []struct{ src, want string }{
		{"let a = 5; let b = a; a = b;", "step, push 5, store 0, step, load 0, store 1, step, load 1, store 0, stop"},
		{"Pos.x = 5;", "step, push 5, put 8, stop"},
		{"Box.a = 1; Box.b = 2; Box.c = 3; Box.x = 4; Pair.b = Box.x;", "step, push 1, put 32, step, push 2, put 33, step, push 3, put 34, step, push 4, put 35, step, field 35, put 41, stop"},
		{"if 1 == 2 { }", "step, push 1, push 2, eq, zero 5, stop"},
		{"if has(Mark) { die; }", "step, has 3, zero 5, step, die, stop"},
		{"if has(Mark) { } else { }", "step, has 3, zero 4, jump 4, stop"},
		{"if has(Mark) { die; } else { stop; die; }", "step, has 3, zero 6, step, die, jump 10, step, stop, step, die, stop"},
		{"if has(Mark) { } else if has(Pos) { die; }", "step, has 3, zero 4, jump 9, step, has 1, zero 9, step, die, stop"},
		{"if has(Mark) { die; } else if has(Pos) { die; } else { stop; }", "step, has 3, zero 6, step, die, jump 14, step, has 1, zero 12, step, die, jump 14, step, stop, stop"},
		{"if has(Mark) { if has(Pos) { } } else { if has(Vel) { } }", "step, has 3, zero 7, step, has 1, zero 6, jump 10, step, has 2, zero 10, stop"},
		{"while has(Mark) { }", "step, has 3, zero 5, step, jump 1, stop"},
		{"while 1 < 2 { while has(Pos) { die; } }", "step, push 1, push 2, lt, zero 14, step, step, has 1, zero 13, step, step, die, jump 7, jump 1, stop"},
		{"repeat 3 { }", "step, push 3, store 0, load 0, push 0, gt, zero 13, step, load 0, push 1, sub, store 0, jump 3, stop"},
		{"let a = 7; repeat a { repeat 2 { let b = 1; } a = 0; }", "step, push 7, store 0, step, load 0, store 1, load 1, push 0, gt, zero 35, step, load 1, push 1, sub, store 1, " +
			"step, push 2, store 2, load 2, push 0, gt, zero 31, step, load 2, push 1, sub, store 2, step, push 1, store 3, jump 18, step, push 0, store 0, jump 6, stop"},
		{"emit me, tick; emit 1 + 2, 3;", "step, me, tick, emit, step, push 1, push 2, add, push 3, emit, stop"},
		{"spawn;", "step, spawn, stop"},
		{"spawn Mark{};", "step, part 24, spawn, stop"},
		{"spawn Mark{}, Pair{b: 7}, Vel{};", "step, push 0, push 7, push 0, part 17, part 42, part 24, spawn, stop"},
		{"spawn Box{a: 1, b: 2, c: 3, x: 4}, Pos{x: 5};", "step, push 1, push 2, push 3, push 4, push 5, part 9, part 36, spawn, stop"},
		{"spawn Pos{x: 1}, Box{b: 2, x: 3};", "step, push 1, push 0, push 2, push 0, push 3, part 36, part 9, spawn, stop"},
		{"add Mark{};", "step, give 24, stop"},
		{"add Pos{x: me}; add Pair{}; add Box{c: 1 + 2};", "step, me, give 9, step, push 0, push 0, give 42, step, push 0, push 0, push 1, push 2, add, push 0, give 36, stop"},
		{"remove Mark; remove Pos; die; stop;", "step, take 3, step, take 1, step, die, step, stop, stop"},
	} {
		wantSystem(t, "system M writes Pos, Box, Pair { "+row.src+" }", row.want)
	}
	wantFunc(t, "func f(a, b) { let c = a; if b == 1 { return c; } return 2; }", "step, load 0, store 2, step, load 1, push 1, eq, zero 11, step, load 2, ret, step, push 2, ret, push 0, ret")
	wantFunc(t, "func f() { while 1 == 1 { return 3; } }", "step, push 1, push 1, eq, zero 10, step, step, push 3, ret, jump 1, push 0, ret")
	wantFunc(t, "func f(a) { repeat a { } }", "step, load 0, store 1, load 1, push 0, gt, zero 13, step, load 1, push 1, sub, store 1, jump 3, push 0, ret")
}

// TestExpressions: X1, each row of the table. (Each begins at the instruction 4.)
func TestExpressions(t *testing.T) {
	numbers := map[string]string{
		"0":                                "push 0",
		"9223372036854775807":              "push 9223372036854775807",
		"v":                                "load 0",
		"Pos.x":                            "field 8",
		"Box.x":                            "field 35",
		"Pair.b":                           "field 41",
		"v + 1":                            "load 0, push 1, add",
		"v - 1":                            "load 0, push 1, sub",
		"v * 1":                            "load 0, push 1, mul",
		"v / 1":                            "load 0, push 1, div",
		"v % 1":                            "load 0, push 1, rem",
		"1 - 2 - 3":                        "push 1, push 2, sub, push 3, sub",
		"1 - (2 - 3)":                      "push 1, push 2, push 3, sub, sub",
		"1 + 2 * 3":                        "push 1, push 2, push 3, mul, add",
		"-v":                               "load 0, neg",
		"--1":                              "push 1, neg, neg",
		"-9223372036854775807 - 1":         "push 9223372036854775807, neg, push 1, sub",
		"has(Mark) ? 1 : 2":                "has 3, zero 8, push 1, jump 9, push 2",
		"1 + (has(Mark) ? 1 : 2)":          "push 1, has 3, zero 9, push 1, jump 10, push 2, add",
		"has(Mark) ? 1 : has(Pos) ? 2 : 3": "has 3, zero 8, push 1, jump 13, has 1, zero 12, push 2, jump 13, push 3",
		"rand(v)":                          "load 0, rand",
		"input(1, v)":                      "push 1, load 0, input",
		"min(v, 1)":                        "load 0, push 1, min",
		"max(v, 1)":                        "load 0, push 1, max",
		"abs(v)":                           "load 0, abs",
		"none()":                           "call 1",
		"four(1, v, 3, 4)":                 "push 1, load 0, push 3, push 4, call 0",
		"four(none(), one(2), 3, none())":  "call 1, push 2, call 2, push 3, call 1, call 0",
		"tick":                             "tick",
		"me":                               "me",
	}
	truths := map[string]string{
		"v == 1":                            "load 0, push 1, eq",
		"v != 1":                            "load 0, push 1, ne",
		"v < 1":                             "load 0, push 1, lt",
		"v <= 1":                            "load 0, push 1, le",
		"v > 1":                             "load 0, push 1, gt",
		"v >= 1":                            "load 0, push 1, ge",
		"has(Pos) && has(Vel)":              "has 1, zero 8, has 2, jump 9, push 0",
		"has(Pos) || has(Vel)":              "has 1, zero 8, push 1, jump 9, has 2",
		"has(Pos) && has(Vel) && has(Mark)": "has 1, zero 8, has 2, jump 9, push 0, zero 12, has 3, jump 13, push 0",
		"has(Pos) || has(Vel) && has(Mark)": "has 1, zero 8, push 1, jump 13, has 2, zero 12, has 3, jump 13, push 0",
		"!has(Pos)":                         "has 1, not",
		"!!(has(Pos) || has(Vel))":          "has 1, zero 8, push 1, jump 9, has 2, not, not",
		"has(Pos) ? has(Vel) : has(Mark)":   "has 1, zero 8, has 2, jump 9, has 3",
		"none() == four(me, tick, v, 1)":    "call 1, me, tick, load 0, push 1, call 0, eq",
	}
	const head, funcs = "system M reads Pos, Box writes Pair { let v = 1; ", " } func four(a, b, c, d) { } func none() { } func one(a) { }"
	for e, want := range numbers {
		wantSystem(t, head+"v = "+e+";"+funcs, "step, push 1, store 0, step, "+want+", store 0, stop")
	}
	for e, want := range truths {
		got := words(compiled(t, head+"if "+e+" { }"+funcs).Systems[0].Run.Code)
		rest, ok := strings.CutPrefix(got, "step, push 1, store 0, step, "+want+", zero ")
		if !ok || rest != fmt.Sprint(strings.Count(got, ","), ", stop") {
			t.Errorf("X1: %s: %s, want %s", e, got, want)
		}
	}
}

// TestNamesLikeWords: X1, functions that are named as instructions are, but mean nothing else in a source.
func TestNamesLikeWords(t *testing.T) {
	for op := 1; op <= 39; op++ {
		name := code.Name(op)
		src := "func " + name + "(a) { return a; } func last(a) { return a; } system M { let v = last(" + name + "(7)); }"
		if _, err := syntax.Parse(src); err != nil {
			continue // a word of the language
		}
		wantSystem(t, src, "step, push 7, call 0, call 1, store 0, stop")
	}
	wantSystem(t, "func push(a) { return a; } system M { let load = push(1); load = load; }", "step, push 1, call 0, store 0, step, load 0, store 0, stop")
}

// TestHeads: X1, systems and functions in their order, each with its name, kinds, params and locals, and its own code.
func TestHeads(t *testing.T) {
	p := compiled(t, `func b(x, y) { let z = g(1); repeat 2 { } return z; }
system Two with Mark, Pos without Pair reads Box, Vel { let a = b(1, 2); }
func a() { return 7; }
system One writes Vel, Pos { Pos.x = g(a()); }
func g(n) { return n; }
system Three { }`)
	want := "[{[1 3] [5] [2 4] [] {Two 0 1 step, push 1, push 2, call 0, store 0, stop}} {[] [] [] [1 2] {One 0 0 step, call 1, call 2, put 8, stop}} {[] [] [] [] {Three 0 0 stop}}] " +
		"[{b 2 4 step, push 1, call 2, store 2, step, push 2, store 3, load 3, push 0, gt, zero 17, step, load 3, push 1, sub, store 3, jump 7, step, load 2, ret, push 0, ret} {a 0 0 step, push 7, ret, push 0, ret} {g 1 1 step, load 0, ret, push 0, ret}]"
	if got := told(p); got != want {
		t.Errorf("X1: heads:\ngot  %s\nwant %s", got, want)
	}
}

// told writes a program, with its code in words.
func told(p api.Program) string {
	type routine struct {
		name           string
		params, locals int
		code           string
	}
	type system struct {
		with, without, reads, writes []int
		run                          routine
	}
	asText := func(r api.Routine) routine { return routine{r.Name, r.Params, r.Locals, words(r.Code)} }
	systems, funcs := []system{}, []routine{}
	for _, s := range p.Systems {
		systems = append(systems, system{s.With, s.Without, s.Reads, s.Writes, asText(s.Run)})
	}
	for _, f := range p.Funcs {
		funcs = append(funcs, asText(f))
	}
	return fmt.Sprint(systems, " ", funcs)
}

// TestSameTrees: 'What follows', trees that are the same have one code, whatever their places are; and printing changes nothing (P6).
func TestSameTrees(t *testing.T) {
	for _, src := range []string{busy, "system M{if(((has(Pos)))){die;}}", "func f(a){return(a)+(1*2);}system M{let b=f((1));}"} {
		c := checked(t, src)
		again := checked(t, syntax.Print(c.Tree()))
		one, e := compile.Compile(c)
		two, other := compile.Compile(again)
		if e != api.OK || other != api.OK || told(one) != told(two) {
			t.Errorf("X1: %s: errors %d, %d\n%s\n%s", src, e, other, told(one), told(two))
		}
	}
}
