package check_test

import (
	"errors"
	"fmt"
	"strings"
	"testing"

	"hindcast/api"
	"hindcast/check"
	"hindcast/syntax"
)

type node = syntax.Node

// kinds are those of the chapter's examples, and more.
func kinds() []api.Kind {
	return []api.Kind{
		{Name: "Pos", Fields: []string{"x", "y"}},
		{Name: "Vel", Fields: []string{"x", "y"}},
		{Name: "Mark"},
		{Name: "Box", Fields: []string{"a", "b", "c", "x"}},
	}
}

func parse(t testing.TB, src string) *node {
	t.Helper()
	n, err := syntax.Parse(src)
	if err != nil {
		t.Fatalf("the test's own source %q: %v", src, err)
	}
	return n
}

// wantTaken asks for a source without a fault.
func wantTaken(t testing.TB, src string) *check.Checked {
	t.Helper()
	c, err := check.Check(parse(t, src), kinds())
	if err != nil || c == nil {
		t.Fatalf("C1: %s: %v, want a program", src, err)
	}
	return c
}

// wantFault asks for a fault where a @ stands in a source.
func wantFault(t *testing.T, src string, want api.Errno) {
	t.Helper()
	at := strings.Index(src, "@")
	if at < 0 || strings.Count(src, "@") > 1 {
		t.Fatalf("the test's own source %q says not where", src)
	}
	c, err := check.Check(parse(t, strings.Replace(src, "@", "", 1)), kinds())
	wantError(t, src, c, err, at, want)
}

func wantError(t *testing.T, what string, c *check.Checked, err error, at int, want api.Errno) {
	t.Helper()
	fault, ok := err.(*api.Fault)
	if !ok || fault == nil || fault.At != at || fault.Err != want {
		t.Errorf("C1: %s: %v, want error %d at %d", what, err, want, at)
		return
	}
	if c != nil {
		t.Errorf("P2: %s: a program beside an error", what)
	}
	if !errors.Is(err, want) {
		t.Errorf("P5: %s: the fault does not wrap %d", what, want)
	}
}

// show writes a tree: of each node its op, its number if it has one, its text, its children.
func show(n *node) string {
	if n == nil {
		return "nil"
	}
	var b strings.Builder
	write(&b, n)
	return b.String()
}

func write(b *strings.Builder, n *node) {
	fmt.Fprintf(b, "%d:%s@%d#%d", n.Op, n.Text, n.At, n.Num)
	for i, child := range n.L {
		b.WriteString([]string{" (", " "}[min(i, 1)])
		write(b, child)
	}
	if len(n.L) > 0 {
		b.WriteString(")")
	}
}

// each calls for all nodes of a tree, from top to bottom.
func each(n *node, call func(*node)) {
	call(n)
	for _, child := range n.L {
		each(child, call)
	}
}

// copied copies a tree, with all that stands in it.
func copied(n *node) *node {
	own := *n
	own.L = nil
	for _, child := range n.L {
		own.L = append(own.L, copied(child))
	}
	return &own
}

// TestExamples: the chapter's examples.
func TestExamples(t *testing.T) {
	c := wantTaken(t, "system M reads Vel writes Pos { Pos.x = Pos.x + Vel.x; }")
	set := c.Tree().L[0].L[4].L[0]
	if set.Op != syntax.SetField || set.Num != 1 || set.L[0].Num != 0 || c.Systems()[0].Run.Locals != 0 {
		t.Errorf("C2: the first example: %s", show(c.Tree()))
	}
	wantFault(t, "system M writes Vel { @Pos.x = Pos.x + Vel.x; }", api.ErrWrite)
	wantFault(t, "system M with Pos reads @Pos { }", api.ErrTwice)
	wantFault(t, "system M { let a = 1; @let a = 2; }", api.ErrTwice)
	wantFault(t, "system M { if @1 { } }", api.ErrType)
	wantFault(t, "system M { let t = 1 @< 2; }", api.ErrType)
	wantFault(t, "system M { let a = @a; }", api.ErrName)
	wantFault(t, "system M { if tick == 0 { let a = 1; } @a = 2; }", api.ErrName)
	wantFault(t, "@func f(a) { return g(a); } func g(b) { return f(b); }", api.ErrLoop)
	wantFault(t, "func f() { @stop; }", api.ErrState)
	wantFault(t, "system M { spawn Pos{y: 1, @x: 2}; }", api.ErrTwice)
	wantFault(t, "system M { emit @f(1), 2; } func f(a, b) { return a; }", api.ErrCall)
}

// TestKinds: C1, kinds that world.New refuses are refused at 0, ahead of all else.
func TestKinds(t *testing.T) {
	long := strings.Repeat("k", api.MaxName+1)
	for name, list := range map[string][]api.Kind{
		"none":             nil,
		"an empty list":    {},
		"a name twice":     {{Name: "A"}, {Name: "B"}, {Name: "A"}},
		"no word":          {{Name: "1"}},
		"no name":          {{}},
		"a long name":      {{Name: long}},
		"a field twice":    {{Name: "A", Fields: []string{"x", "y", "x"}}},
		"no word as field": {{Name: "A", Fields: []string{"x y"}}},
		"five fields":      {{Name: "A", Fields: []string{"a", "b", "c", "d", "e"}}},
		"thirteen":         manyKinds(13),
	} {
		for _, src := range []string{"", "system M { let a = 1; }", "system M { } system M { x = 1; }", "func f() { return f(); }"} {
			c, err := check.Check(parse(t, src), list)
			wantError(t, "kinds: "+name, c, err, 0, api.ErrKinds)
		}
	}
	for name, list := range map[string][]api.Kind{
		"one":                          {{Name: "A"}},
		"twelve":                       manyKinds(12),
		"words that mean something":    {{Name: "let", Fields: []string{"if", "me"}}, {Name: "rand"}},
		"a field with its kind's name": {{Name: "A", Fields: []string{"A"}}},
	} {
		if _, err := check.Check(parse(t, "system M { let a = 1; }"), list); err != nil {
			t.Errorf("C1: kinds: %s: %v", name, err)
		}
	}
}

// manyKinds are K0, K1 and so on, each with four fields.
func manyKinds(n int) []api.Kind {
	var list []api.Kind
	for i := range n {
		list = append(list, api.Kind{Name: fmt.Sprint("K", i), Fields: []string{"a", "b", "c", "d"}})
	}
	return list
}

// TestHeads: C1, faults of heads, in their order, ahead of all blocks.
func TestHeads(t *testing.T) {
	for src, want := range map[string]api.Errno{
		"system M { } @system M { }":                                 api.ErrTwice,
		"system M { } system N { } func f() { } @system M { }":       api.ErrTwice,
		"system M { } @system M with Nix { }":                        api.ErrTwice,
		"system M with @Nix { } system M { }":                        api.ErrName,
		"func f() { } system f { } @func f(a, a) { }":                api.ErrTwice,
		"func f(a, @a) { } func f() { }":                             api.ErrTwice,
		"func f(a, b, c, @a) { }":                                    api.ErrTwice,
		"func f(a, b, @b, a) { }":                                    api.ErrTwice,
		"system M with @Nix { }":                                     api.ErrName,
		"system M without Pos, @nix { }":                             api.ErrName,
		"system M reads @pos { }":                                    api.ErrName,
		"system M writes Pos, @M { } system N with Nix { }":          api.ErrName,
		"system M with Pos, @Pos { }":                                api.ErrTwice,
		"system M with Pos without @Pos { }":                         api.ErrTwice,
		"system M with Pos reads @Pos { }":                           api.ErrTwice,
		"system M with Pos writes @Pos { }":                          api.ErrTwice,
		"system M without Vel, @Vel { }":                             api.ErrTwice,
		"system M without Vel reads @Vel { }":                        api.ErrTwice,
		"system M without Vel writes Pos, @Vel { }":                  api.ErrTwice,
		"system M reads Mark, Vel, @Mark { }":                        api.ErrTwice,
		"system M reads Box writes @Box { }":                         api.ErrTwice,
		"system M writes Box, Pos, @Box { }":                         api.ErrTwice,
		"system M with Pos, @Nix, Pos, Nix { }":                      api.ErrName,
		"system M with Pos, @Pos, Nix { }":                           api.ErrTwice,
		"system M with Pos without @Nix reads Nix writes Pos { }":    api.ErrName,
		"system M { x = 1; } func f(a, @a) { }":                      api.ErrTwice,
		"func f() { return f(); } @func f() { }":                     api.ErrTwice,
		"system M { if 1 { } } system N with Pos writes Vel, @Q { }": api.ErrName,
	} {
		wantFault(t, src, want)
	}
	for _, src := range []string{
		"", "system M { }", "func M() { } system M { }", "system M { } func M() { }",
		"system M with Pos without Vel reads Mark writes Box { }", "system M with Pos { } system N with Pos writes Vel { }",
		"func f(a, b, c, d) { } func g(a, b, c, d) { }", "func f(f, M, Pos) { } system M { }", "system Pos { } func Pos() { }",
		"system m with Pos { } system M with Pos { }",
	} {
		wantTaken(t, src)
	}
}

// TestNamesOfSystems: C1, names of systems may be other texts: they are the same or they are not.
func TestNamesOfSystems(t *testing.T) {
	for _, texts := range [][2]string{{"", " "}, {"a b", "b a"}, {"let", "1"}, {"\x00", "\xff"}, {"@", strings.Repeat("long", 100)}} {
		n := parse(t, "system A { } system B { let a = 1; }")
		n.L[0].Text, n.L[1].Text = texts[0], texts[1]
		c, err := check.Check(n, kinds())
		if err != nil {
			t.Fatalf("C1: the names %q: %v", texts, err)
		}
		if s := c.Systems(); s[0].Run.Name != texts[0] || s[1].Run.Name != texts[1] || c.Tree().L[0].Text != texts[0] || c.Tree().L[1].Text != texts[1] {
			t.Errorf("C3: the names %q: %v", texts, s)
		}
		n.L[1].Text = texts[0]
		c, err = check.Check(n, kinds())
		wantError(t, "the same names", c, err, 13, api.ErrTwice)
	}
}

// TestVariables: C1, what is known where, of Let and Set and Name.
func TestVariables(t *testing.T) {
	for src, want := range map[string]api.Errno{
		"system M { @a = 1; }":                                                        api.ErrName,
		"system M { @a = b; }":                                                        api.ErrName,
		"system M { let a = 1; a = @b; }":                                             api.ErrName,
		"system M { let a = 1; @A = 1; }":                                             api.ErrName,
		"system M { let a = @b; let b = 1; }":                                         api.ErrName,
		"system M { let a = 1; @let a = 1; }":                                         api.ErrTwice,
		"system M { let a = 1; @let a = b; }":                                         api.ErrTwice,
		"system M { let a = 1; @let a = 1 < 2; }":                                     api.ErrTwice,
		"system M { let a = 1; let b = 1; repeat b { while a < 1 { @let a = 2; } } }": api.ErrTwice,
		"system M { let a = 1; if a < 1 { } else { @let a = 2; } }":                   api.ErrTwice,
		"system M { if 1 < 2 { let a = 1; } else { @a = 1; } }":                       api.ErrName,
		"system M { if 1 < 2 { let a = 1; } else if @a < 1 { } }":                     api.ErrName,
		"system M { if 1 < 2 { let a = 1; } emit @a, 1; }":                            api.ErrName,
		"system M { while 1 < 2 { let a = 1; } emit 1, @a; }":                         api.ErrName,
		"system M { repeat 3 { let a = 1; } repeat @a { } }":                          api.ErrName,
		"system M { repeat @a { let a = 1; } }":                                       api.ErrName,
		"system M { while @a < 1 { let a = 1; } }":                                    api.ErrName,
		"system M { let a = 1; if 1 < 2 { let b = a; let c = b; } @c = 1; }":          api.ErrName,
		"system M { let a = 1; } system N { @a = 1; }":                                api.ErrName,
		"func f(a) { let b = a; } func g(c) { return @a; }":                           api.ErrName,
		"func f(a) { } system M { @a = 1; }":                                          api.ErrName,
		"func f(a, b) { @let b = 1; }":                                                api.ErrTwice,
		"func f(a) { if a < 1 { @let a = 2; } return a; }":                            api.ErrTwice,
		"func f() { return @f; }":                                                     api.ErrName,
		"system M reads Pos { let a = @Pos; }":                                        api.ErrName,
		"system M reads Pos { let a = @x; }":                                          api.ErrName,
		"system M { repeat @M { } }":                                                  api.ErrName,
	} {
		wantFault(t, src, want)
	}
	for _, src := range []string{
		"system M { let a = 1; a = a; let b = a + a; b = a; }",
		"system M { if 1 < 2 { let a = 1; } else { let a = 2; a = a; } let a = 3; }",
		"system M { if 1 < 2 { let a = 1; } else if 1 < 3 { let a = 2; } else if 2 < 3 { let a = 1; } }",
		"system M { while 1 < 2 { let a = 1; } repeat 1 { let a = 1; } let a = 1; repeat a { a = a + 1; } }",
		"func f(a, b) { a = b; let c = a; repeat c { let d = c; b = d; } let d = a; return d; }",
		"func f(a) { return a; } func g(a) { return a; } system M { let a = f(g(1)); }",
		"func f(f) { let M = f; let Pos = M; return Pos; } system M writes Pos { let Pos = 1; let x = Pos; Pos.x = x + Pos.x + Pos; }",
	} {
		wantTaken(t, src)
	}
}

// TestStatements: C1, the faults of the other statements, in their order.
func TestStatements(t *testing.T) {
	for src, want := range map[string]api.Errno{
		"func f() { @Nix.q = z; }":                                         api.ErrState,
		"func f() { @Pos.x = 1; }":                                         api.ErrState,
		"system M { @Nix.q = z; }":                                         api.ErrName,
		"system M { @Pos.q = z; }":                                         api.ErrWrite,
		"system M with Pos { @Pos.x = 1; }":                                api.ErrWrite,
		"system M without Pos { @Pos.x = 1; }":                             api.ErrWrite,
		"system M reads Pos { @Pos.x = 1; }":                               api.ErrWrite,
		"system M writes Vel { @Pos.x = 1; }":                              api.ErrWrite,
		"system M writes Pos { } system N { @Pos.x = 1; }":                 api.ErrWrite,
		"system M writes Pos { Pos.@q = z; }":                              api.ErrField,
		"system M writes Pos { Pos.@a = z; }":                              api.ErrField,
		"system M writes Mark { Mark.@x = 1; }":                            api.ErrField,
		"system M writes Pos { Pos.x = @z; }":                              api.ErrName,
		"system M writes Pos { Pos.x = 1 @< 2; }":                          api.ErrType,
		"system M writes Pos, Mark { let y = 1; Pos.x = 1; Mark.@y = y; }": api.ErrField,

		"system M { if @1 { z = 1; } else { z = 2; } }":                api.ErrType,
		"system M { if 1 < 2 { @z = 1; } else { y = 2; } }":            api.ErrName,
		"system M { if 1 < 2 { } else { @y = 2; } x = 1; }":            api.ErrName,
		"system M { if 1 < 2 { } else if @2 { x = 1; } }":              api.ErrType,
		"system M { if 1 < 2 { } else if 1 < 2 { @x = 1; } }":          api.ErrName,
		"system M { if 1 < 2 { } else if 1 < 2 { } else { @x = 1; } }": api.ErrName,
		"system M { while @1 { z = 1; } }":                             api.ErrType,
		"system M { while 1 < 2 { @z = 1; } }":                         api.ErrName,
		"system M { repeat 1 @< 2 { z = 1; } }":                        api.ErrType,
		"system M { repeat 1 { @z = 1; } }":                            api.ErrName,

		"func f() { @emit z, z; }":             api.ErrState,
		"system M { emit @z, 1 < 2; }":         api.ErrName,
		"system M { emit 1 @< 2, z; }":         api.ErrType,
		"system M { emit 1, 1 @< 2; }":         api.ErrType,
		"func f() { @spawn; }":                 api.ErrState,
		"func f() { @spawn Nix{q: z}; }":       api.ErrState,
		"func f() { @add Nix{q: z}; }":         api.ErrState,
		"func f() { @remove Nix; }":            api.ErrState,
		"func f() { @remove Pos; }":            api.ErrState,
		"func f() { @die; }":                   api.ErrState,
		"func f() { @stop; }":                  api.ErrState,
		"func f() { if 1 < 2 { @die; } }":      api.ErrState,
		"system M { @remove Nix; }":            api.ErrName,
		"system M { @return z; }":              api.ErrState,
		"system M { @return 1; }":              api.ErrState,
		"system M { repeat 1 { @return 1; } }": api.ErrState,
		"func f() { return @z; }":              api.ErrName,
		"func f() { return 1 @== 1; }":         api.ErrType,
	} {
		wantFault(t, src, want)
	}
	for _, src := range []string{
		"system M writes Pos, Box { Pos.x = 1; Pos.y = 2; Box.x = Pos.x; Box.c = 1; }",
		"system M { if 1 < 2 { } else { } while 1 < 2 { } repeat 0 - 1 { } emit 1, 2; spawn; add Pos{}; remove Box; die; stop; stop; }",
		"func f() { } func g() { return 1; return 2; } func h() { if 1 < 2 { return 3; } while 1 < 2 { repeat 1 { return 4; } } }",
		"func f() { return tick + me + rand(2) + input(1, 2); }",
	} {
		wantTaken(t, src)
	}
}

// TestParts: C1, the parts of Spawn and Add, and their values.
func TestParts(t *testing.T) {
	for src, want := range map[string]api.Errno{
		"system M { spawn @Nix{q: z}; }":                   api.ErrName,
		"system M { spawn Pos{}, @Nix{}, Pos{}; }":         api.ErrName,
		"system M { spawn Pos{}, @Pos{q: z}, Nix{}; }":     api.ErrTwice,
		"system M { spawn Pos{}, Vel{}, Mark{}, @Vel{}; }": api.ErrTwice,
		"system M { spawn Pos{@q: z}, Nix{}; }":            api.ErrField,
		"system M { spawn Pos{}, Vel{x: 1, @q: z}; }":      api.ErrField,
		"system M { spawn Mark{@x: 1}; }":                  api.ErrField,
		"system M { spawn Pos{x: 1, @x: z}; }":             api.ErrTwice,
		"system M { spawn Pos{y: 1, @x: z}; }":             api.ErrTwice,
		"system M { spawn Pos{y: 1, @q: 1}; }":             api.ErrField,
		"system M { spawn Box{a: 1, x: 2, @c: 1}; }":       api.ErrTwice,
		"system M { spawn Box{b: 1, c: 2, @b: 1}; }":       api.ErrTwice,
		"system M { spawn Pos{x: @z}, Nix{}; }":            api.ErrName,
		"system M { spawn Pos{x: 1, y: 1 @< 2}; }":         api.ErrType,
		"system M { spawn Pos{x: @z, x: 1}; }":             api.ErrName,
		"system M { add @Nix{q: z}; }":                     api.ErrName,
		"system M { add Pos{@q: z}; }":                     api.ErrField,
		"system M { add Pos{y: 1, @y: z}; }":               api.ErrTwice,
		"system M { add Pos{y: @z}; }":                     api.ErrName,
		"system M { add Box{x: 1 @>= 2}; }":                api.ErrType,
		"system M { add @M{}; }":                           api.ErrName,
		"system M { let a = 1; add Vel{@a: 1}; }":          api.ErrField,
	} {
		wantFault(t, src, want)
	}
	for _, src := range []string{
		"system M { spawn Pos{}, Vel{y: 1}, Mark{}, Box{a: 1, b: 2, c: 3, x: 4}; spawn Pos{x: 1}; }",
		"system M { spawn Box{a: 1, c: 3}; spawn Box{b: 1, x: 3}; add Box{x: 1}; add Box{a: 1, x: tick}; add Mark{}; add Mark{}; }",
		"system M without Pos { spawn Pos{x: 1}; add Pos{y: 1}; remove Pos; }",
		"system M reads Pos { let x = 1; spawn Vel{x: x, y: Pos.y}, Pos{x: x}; }",
	} {
		wantTaken(t, src)
	}
}

// TestFields: C1, Field and Has.
func TestFields(t *testing.T) {
	for src, want := range map[string]api.Errno{
		"func f() { return @Nix.q; }":                       api.ErrRead,
		"func f() { return @Pos.x; }":                       api.ErrRead,
		"system M { let a = @Nix.q; }":                      api.ErrName,
		"system M { let a = @Pos.q; }":                      api.ErrRead,
		"system M with Pos { let a = @Pos.x; }":             api.ErrRead,
		"system M without Pos { let a = @Pos.x; }":          api.ErrRead,
		"system M reads Vel writes Box { let a = @Pos.x; }": api.ErrRead,
		"system M reads Pos { let a = Pos.@q; }":            api.ErrField,
		"system M writes Pos { let a = Pos.@q; }":           api.ErrField,
		"system M reads Mark { let a = Mark.@x; }":          api.ErrField,
		"system M reads Pos { let x = 1; if @Pos.x { } }":   api.ErrType,
		"system M { if @Nix.q { } }":                        api.ErrType,
		"func f() { if @Nix.q { } }":                        api.ErrType,
		"func f() { if @has(Nix) { } }":                     api.ErrState,
		"func f() { if @has(Pos) { } }":                     api.ErrState,
		"func f() { return @has(Pos); }":                    api.ErrType,
		"system M { if @has(Nix) { } }":                     api.ErrName,
		"system M { emit @has(Nix), 1; }":                   api.ErrType,
		"system M { let a = 1; if @has(a) { } }":            api.ErrName,
	} {
		wantFault(t, src, want)
	}
	for _, src := range []string{
		"system M reads Pos writes Vel { let a = Pos.x + Pos.y + Vel.x + Vel.y; if Pos.x < Vel.y { } }",
		"system M { if has(Pos) || has(Vel) && !has(Mark) { } }",
		"system M with Pos without Vel reads Mark { while has(Pos) { if has(Vel) ? has(Mark) : has(Box) { } } }",
	} {
		wantTaken(t, src)
	}
}

// TestCalls: C1, Call.
func TestCalls(t *testing.T) {
	for src, want := range map[string]api.Errno{
		"system M { let a = @f(z); }":                                    api.ErrName,
		"system M { let a = @M(); }":                                     api.ErrName,
		"system M { let a = 1; a = @a(); }":                              api.ErrName,
		"system M { let a = @Pos(1); }":                                  api.ErrName,
		"func f(g) { return @g(1); }":                                    api.ErrName,
		"system M { let a = @rand(); }":                                  api.ErrCall,
		"system M { let a = @rand(z, z); }":                              api.ErrCall,
		"system M { let a = @input(); }":                                 api.ErrCall,
		"system M { let a = @input(z); }":                                api.ErrCall,
		"system M { let a = @input(1, 2, 3); }":                          api.ErrCall,
		"system M { let a = @min(z); }":                                  api.ErrCall,
		"system M { let a = @min(1, 2, 3); }":                            api.ErrCall,
		"system M { let a = @max(1); }":                                  api.ErrCall,
		"system M { let a = @max(1, 2, z); }":                            api.ErrCall,
		"system M { let a = @abs(); }":                                   api.ErrCall,
		"system M { let a = @abs(1, 2); }":                               api.ErrCall,
		"system M { let a = @f(z); } func f() { }":                       api.ErrCall,
		"system M { let a = @f(); } func f(b) { }":                       api.ErrCall,
		"system M { let a = @f(1, 2, 3); } func f(b, c, d, e) { }":       api.ErrCall,
		"system M { let a = @f(1, 2, 3, 4, 5); } func f(b, c, d, e) { }": api.ErrCall,
		"system M { let a = @f(1); } func g(a) { } func f() { }":         api.ErrCall,
		"system M { let a = f(1, @z); } func f(b, c) { }":                api.ErrName,
		"system M { let a = f(@y, z); } func f(b, c) { }":                api.ErrName,
		"system M { let a = f(1, 1 @< 2); } func f(b, c) { }":            api.ErrType,
		"system M { let a = rand(1 @< 2); }":                             api.ErrType,
		"system M { let a = input(1, @has(Pos)); }":                      api.ErrType,
		"system M { let a = min(@!(1 < 2), z); }":                        api.ErrType,
		"system M { let a = max(1, max(2, @z)); }":                       api.ErrName,
		"system M { let a = abs(@!(1 < 2)); }":                           api.ErrType,
		"system M { if @f(z) { } }":                                      api.ErrType,
		"system M { if @rand() { } }":                                    api.ErrType,
		"func f(a) { return g(@b); } func g(b) { return f(b); }":         api.ErrName,
		"func f() { return f(); } system M { @z = 1; }":                  api.ErrName,
		"func f() { return f(); } func g() { return @h(); }":             api.ErrName,
		"func f() { return @f(1); }":                                     api.ErrCall,
	} {
		wantFault(t, src, want)
	}
	for _, src := range []string{
		"system M { let a = rand(1) + input(1, 2) + min(1, 2) + max(1, 2) + abs(0 - 1); }",
		"system M { let a = f() + g(1) + h(1, 2) + i(1, 2, 3) + j(1, 2, 3, 4); } func f() { } func g(a) { } func h(a, b) { } func i(a, b, c) { } func j(a, b, c, d) { }",
		"func f(f) { return f; } func g(f) { return f(f); } system f { let f = 1; f = f(f) + g(f); }",
		"func f() { return g(h(), h()); } func g(a, b) { return h(); } func h() { return 1; }",
	} {
		wantTaken(t, src)
	}
}

// TestTypes: C1, each sign and word, where a number and where a truth is wanted.
func TestTypes(t *testing.T) {
	for _, sign := range []string{"+", "-", "*", "/", "%"} {
		wantTaken(t, "system M { let a = 1 "+sign+" 2; if (1 "+sign+" 2) < 3 { } }")
		wantFault(t, "system M { if 1 @"+sign+" 2 { } }", api.ErrType)
		wantFault(t, "system M { let a = (1 @< 2) "+sign+" 1; }", api.ErrType)
		wantFault(t, "system M { let a = 1 "+sign+" (1 @< 2); }", api.ErrType)
		wantFault(t, "system M { let a = @z "+sign+" (1 < 2); }", api.ErrName)
		wantFault(t, "system M { if z @"+sign+" z { } }", api.ErrType)
	}
	for _, sign := range []string{"==", "!=", "<", "<=", ">", ">="} {
		wantTaken(t, "system M { if 1 "+sign+" 2 { } while 1 + 1 "+sign+" tick { } }")
		wantFault(t, "system M { let a = 1 @"+sign+" 2; }", api.ErrType)
		wantFault(t, "system M { if (1 @< 2) "+sign+" 1 { } }", api.ErrType)
		wantFault(t, "system M { if 1 "+sign+" (1 @< 2) { } }", api.ErrType)
		wantFault(t, "system M { if 1 "+sign+" @has(Pos) { } }", api.ErrType)
		wantFault(t, "system M { let a = z @"+sign+" z; }", api.ErrType)
	}
	for _, sign := range []string{"&&", "||"} {
		wantTaken(t, "system M { if 1 < 2 "+sign+" has(Pos) { } while has(Pos) "+sign+" !(1 < 2) { } }")
		wantFault(t, "system M { let a = 1 @"+sign+" 2; }", api.ErrType)
		wantFault(t, "system M { if @1 "+sign+" 1 < 2 { } }", api.ErrType)
		wantFault(t, "system M { if 1 < 2 "+sign+" @1 { } }", api.ErrType)
		wantFault(t, "system M { if 1 < 2 "+sign+" 2 < @z { } }", api.ErrName)
	}
	wantTaken(t, "system M { let a = -1; a = --a; if !(1 < 2) { } if !!(-1 < -2) { } }")
	wantFault(t, "system M { if @-1 { } }", api.ErrType)
	wantFault(t, "system M { let a = @!1; }", api.ErrType)
	wantFault(t, "system M { let a = -@!(1 < 2); }", api.ErrType)
	wantFault(t, "system M { if !@-1 { } }", api.ErrType)
	wantFault(t, "system M { if !@1 { } }", api.ErrType)
	wantFault(t, "system M { let a = -(1 @< 2); }", api.ErrType)
	for _, word := range []string{"1", "z", "tick", "me", "Pos.x", "rand(1)", "min(1, 2)", "f(1)"} {
		wantFault(t, "system M reads Pos { if @"+word+" { } }", api.ErrType)
		wantFault(t, "system M reads Pos { while !@"+word+" { } }", api.ErrType)
	}
	wantFault(t, "system M { let a = @has(Pos); }", api.ErrType)
}

// TestConds: C1, a Cond is what is wanted.
func TestConds(t *testing.T) {
	for _, src := range []string{
		"system M { let a = 1 < 2 ? 3 : 4; if 1 < 2 ? 3 < 4 : has(Pos) { } }",
		"system M { let a = (1 < 2 ? 3 < 4 : has(Pos)) ? 3 : 2 < 3 ? 4 : 5; }",
		"system M { if (1 < 2 ? 3 : 4) < (1 < 2 ? 3 : 4) { } if (1 < 2 ? has(Pos) : has(Vel)) && (1 < 2 ? 1 < 2 : 2 < 3) { } }",
		"system M { let a = -(1 < 2 ? 3 : 4); if !(1 < 2 ? 3 < 4 : 4 < 5) { } }",
	} {
		wantTaken(t, src)
	}
	for src, want := range map[string]api.Errno{
		"system M { let a = @1 ? z : z; }":                     api.ErrType,
		"system M { let a = 1 < 2 ? 2 @< 3 : z; }":             api.ErrType,
		"system M { let a = 1 < 2 ? @z : 2 < 3; }":             api.ErrName,
		"system M { let a = 1 < 2 ? 3 : 2 @< 3; }":             api.ErrType,
		"system M { if 1 < 2 ? @3 : z { } }":                   api.ErrType,
		"system M { if 1 < 2 ? 3 < 4 : @z { } }":               api.ErrType,
		"system M { if 1 < 2 ? 3 < 4 : @3 { } }":               api.ErrType,
		"system M { let a = (1 < 2 ? @3 : 4) ? 5 : 6; }":       api.ErrType,
		"system M { let a = 1 < 2 ? 3 : 1 < 2 ? 4 : 5 @< 6; }": api.ErrType,
		"system M { let a = 1 + (1 < 2 ? 3 : 4 @< 5); }":       api.ErrType,
		"system M { if (1 < 2 ? 3 @< 4 : 4) < 5 { } }":         api.ErrType,
		"system M { if 1 < 2 && (1 < 2 ? 3 < 4 : @5) { } }":    api.ErrType,
		"system M { let a = min(1, @2 ? 3 : 4); }":             api.ErrType,
		"system M { if !(1 < 2 ? 3 < 4 : @4) { } }":            api.ErrType,
		"system M { emit 1 < 2 ? 1 : 2, @3 ? 1 < 2 : 3; }":     api.ErrType,
	} {
		wantFault(t, src, want)
	}
}

// TestRounds: C1, functions that call themselves, when nothing else is wrong.
func TestRounds(t *testing.T) {
	for _, src := range []string{
		"@func f() { return f(); }",
		"func g() { } @func f() { return f(); } func h() { return h(); }",
		"func h() { return f(1); } @func f(a) { return f(a); }",
		"@func f(a) { return g(a); } func g(b) { return f(b); }",
		"func e() { return f(); } func x() { return e(); } @func f() { return g(); } func g() { return h(); } func h() { return f(); }",
		"func e() { return f(); } @func f() { return h(); } func g() { return f(); } func h() { return g(); }",
		"func a() { return b() + c(); } func b() { return d(); } func c() { return d(); } @func d() { return e(); } func e() { return 1 + d(); }",
		"@func f() { if f() < 1 { } }",
		"@func f() { if 1 < 2 { } else if 2 < 3 { } else { while 1 < 2 { repeat 3 { let a = min(1, -(1 < 2 ? 1 : f())); } } } }",
		"@func f() { return 1; return 1 + abs(f()); }",
		"@func f(a) { return 1 < 1 ? f(1) : 2; }",
		"func f(a) { return a; } @func g(a) { return f(g(a)); }",
		"system M { let a = f(); } @func f() { return g(); } system N { } func g() { return f(); }",
	} {
		wantFault(t, src, api.ErrLoop)
	}
	for _, src := range []string{
		"func f() { return g() + h(); } func g() { return h() + h(); } func h() { return 1; }",
		"func h() { return 1; } func g() { return h() + h(); } func f() { return g() + h(); }",
		"func a() { return rand(1) + abs(2); } func b() { return min(a(), a()); }",
		"func a() { return min(1, max(2, abs(input(1, rand(2))))); }",
		"system a { let x = b(a()); } func a() { return 1; } func b(x) { return x; }",
	} {
		wantTaken(t, src)
	}
}

// TestOrder: C1, members, statements and what stands in them are looked at from the left; heads ahead of blocks, those ahead of rounds.
func TestOrder(t *testing.T) {
	wantFault(t, "system M { @a = 1; b = 1; }", api.ErrName)
	wantFault(t, "system M { let a = 1; @b = 1; return 1; }", api.ErrName)
	wantFault(t, "system M { @return 1; b = 1; }", api.ErrState)
	wantFault(t, "func f() { @die; } system M { b = 1; }", api.ErrState)
	wantFault(t, "system M { @b = 1; } func f() { die; }", api.ErrName)
	wantFault(t, "system M { if @z < y && 1 { x = 1; } }", api.ErrName)
	wantFault(t, "system M { if 1 < 2 && @1 { x = 1; } }", api.ErrType)
	wantFault(t, "func f() { return f(); } func g() { @die; }", api.ErrState)
	wantFault(t, "func f() { @die; } func g() { return g(); }", api.ErrState)
	wantFault(t, "func f() { die; return f(); } func g(a, @a) { return g(); }", api.ErrTwice)
	wantFault(t, "system M { repeat 1 { let a = @z; let a = 1; } }", api.ErrName)
}
