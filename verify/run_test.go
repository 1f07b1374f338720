package verify_test

import (
	"fmt"
	"math/rand"
	"slices"
	"strings"
	"testing"

	"hindcast/api"
	"hindcast/check"
	"hindcast/code"
	"hindcast/compile"
	"hindcast/machine"
	"hindcast/syntax"
	"hindcast/verify"
)

// doing lets a system's code run, as chapter 16 says, as far as it shows how a run is cut off: then it gives up by a panic. Numbers that come from outside are left to chance.
type doing struct {
	*rand.Rand
	p        api.Program
	s        api.System
	row      map[int64][]int64
	steps    int
	unstep   int // instructions behind the last step
	calls    int
	kept     int // parts
	commands int
	events   int
	look     func(r api.Routine, at, depth int) // is told what is done
}

// run gives the error with which a run is cut off.
func (d *doing) run() (e api.Errno) {
	defer func() {
		switch why := recover().(type) {
		case nil:
		case api.Errno:
			e = why
		default:
			panic(why)
		}
	}()
	d.routine(d.s.Run, nil, true)
	return api.OK
}

func must(right bool, e api.Errno) {
	if !right {
		panic(e)
	}
}

func (d *doing) step() {
	d.steps++
	d.unstep = 0
	must(d.steps <= 2000, api.ErrFuel)
}

func (d *doing) routine(r api.Routine, arguments []int64, isSystem bool) int64 {
	locals := append(slices.Clone(arguments), make([]int64, max(0, r.Locals-len(arguments)))...)
	var stack []int64
	for next := int64(0); ; {
		must(next >= 0 && next < int64(len(r.Code)), api.ErrJump)
		must(d.unstep < 40000, api.ErrEnd)
		d.unstep++
		i := r.Code[next]
		d.look(r, int(next), len(stack))
		takes, puts := code.Effect(i, d.p.Funcs)
		must(len(stack) >= takes && len(stack)-takes+puts <= 64, api.ErrStack)
		must(isSystem != is(i, "ret") || !is(i, "ret field put emit part spawn give take die has stop"), api.ErrAccess)
		x := slices.Clone(stack[len(stack)-takes:])
		stack = stack[:len(stack)-takes]
		next++
		answer := int64(d.Intn(5) - 1)
		switch i.Op {
		case code.Load, code.Store:
			must(i.A >= 0 && i.A < int64(len(locals)), api.ErrAccess)
			if i.Op == code.Load {
				answer = locals[i.A]
			} else {
				locals[i.A] = x[0]
			}
		case code.Jump:
			next = i.A
		case code.Zero:
			if x[0] == 0 {
				next = i.A
			}
		case code.Call:
			must(i.A >= 0 && i.A < int64(len(d.p.Funcs)) && d.calls < 16, api.ErrAccess)
			d.step()
			d.calls++
			answer = d.routine(d.p.Funcs[i.A], x, false)
			d.calls--
		case code.Ret, code.Stop:
			return append(x, 0)[0]
		case code.Push:
			answer = i.A
		case code.Step:
			d.step()
		default:
			d.touch(i, &answer, x)
		}
		if puts == 1 {
			stack = append(stack, answer)
		}
	}
}

// touch does what has to do with the entity; what is merely reckoned has any answer.
func (d *doing) touch(i api.Instr, answer *int64, x []int64) {
	kind := i.A / 8
	isKind := func(kind int64) bool { return kind >= 1 && kind <= 12 }
	switch {
	case is(i, "field put"):
		has := slices.Contains(d.s.Writes, int(kind)) || is(i, "field") && slices.Contains(d.s.Reads, int(kind))
		must(i.A >= 0 && has && i.A%8 < int64(len(d.row[kind])), api.ErrAccess)
		if is(i, "put") {
			d.row[kind][i.A%8] = x[0]
		} else {
			*answer = d.row[kind][i.A%8]
		}
	case is(i, "part"):
		must(isKind(kind) && d.kept < 12, api.ErrAccess)
		d.kept++
	case is(i, "give"):
		must(isKind(kind), api.ErrAccess)
	case is(i, "take has"):
		must(isKind(i.A), api.ErrAccess)
	case is(i, "spawn"):
		d.kept = 0
	}
	if is(i, "spawn give take die") {
		must(d.commands < 16, api.ErrLong)
		d.commands++
	}
	if is(i, "emit") {
		must(d.events < 16, api.ErrLong)
		d.events++
	}
}

// runs lets each system run some times, here and by the machine, for entities that have what it reads and writes, and counts how the runs end.
func runs(r *rand.Rand, p api.Program, kinds []api.Kind, ends map[api.Errno]int, look func(r api.Routine, at, depth int)) {
	for number, s := range p.Systems {
		for range 4 {
			d := &doing{Rand: r, p: p, s: s, row: map[int64][]int64{}, look: look}
			e := api.Env{Frame: r.Intn(5), Seed: r.Int63(), Row: api.Row{E: api.Entity{Index: r.Intn(5), Gen: 1}}}
			for n, k := range kinds {
				if slices.Contains(s.Reads, n+1) || slices.Contains(s.Writes, n+1) || r.Intn(2) == 0 {
					d.row[int64(n+1)] = make([]int64, len(k.Fields))
					e.Row.Parts = append(e.Row.Parts, api.Part{Kind: n + 1, Values: make([]int64, len(k.Fields))})
				}
			}
			ends[d.run()]++
			ends[machine.Run(p, number, e).Err]++
		}
	}
}

// wantRuns holds that runs of a program that was taken are cut off by ErrFuel and ErrLong alone, and that the stack is as deep as Depths tells.
func wantRuns(t testing.TB, r *rand.Rand, p api.Program, kinds []api.Kind, ends map[api.Errno]int) {
	t.Helper()
	depths := map[*api.Instr][]int{} // by the first one
	for _, x := range modelRoutines(p) {
		depths[&x.Code[0]], _ = verify.Depths(p, x.Routine)
	}
	runs(r, p, kinds, ends, func(x api.Routine, at, depth int) {
		if depths[&x.Code[0]][at] != depth {
			t.Fatalf("V2: the stack of %s is %d deep at %d", words(x.Code), depth, at)
		}
	})
	for e := range ends {
		if e != api.OK && e != api.ErrFuel && e != api.ErrLong {
			t.Fatalf("P7: a program that was taken is cut off by %v: %s\nfor %v", e, shown(p), kinds)
		}
	}
}

// TestRuns: what follows (P7), programs that are taken do not leave their bounds; some of those that are refused do.
func TestRuns(t *testing.T) {
	taken, refused := map[api.Errno]int{}, map[api.Errno]int{}
	for seed := range 3000 {
		r := rand.New(rand.NewSource(int64(seed)))
		p, list := grow(r)
		for range seed % 3 {
			spoil(r, &p)
		}
		if verify.Verify(p, list) == nil {
			wantRuns(t, r, p, list, taken)
		} else if _, e := code.Encode(p); e == api.OK {
			runs(r, p, list, refused, func(api.Routine, int, int) {})
		}
	}
	if taken[api.OK] < 2000 || taken[api.ErrFuel] < 20 || taken[api.ErrLong] < 20 {
		t.Errorf("the test's own programs have runs of too few sorts: %v", taken)
	}
	for _, e := range []api.Errno{api.ErrJump, api.ErrStack, api.ErrAccess, api.ErrEnd} {
		if refused[e] < 5 {
			t.Errorf("the test's own programs that are refused have runs of too few sorts: %v", refused)
		}
	}
}

// sources have all there is in the language.
var sources = []string{
	"", "system M { }", "func f() { }", "func f() { return 1; return 2; }", "system M { stop; die; stop; }",
	"system M reads Vel writes Pos { Pos.x = Pos.x + Vel.x; }",
	"system M { let i = 0; while i < 3 { i = i + 1; } }", "system M { while 1 == 1 { } }", "system M { repeat 3 { repeat 4 { } } }",
	"system M { spawn Vel{x: me}, Pos{}; spawn; spawn Mark{}; spawn Mark{}, Box{a: me > 1 ? 2 : 3}, Pair{b: 4}; add Pair{a: 1}; add Mark{}; remove Box; }",
	"func f(a) { if a > 0 { return a; } } func g(a) { while a < 9 { a = a + f(a) + 1; if a == 8 { return 3; } } } system M { emit g(0), g(1); emit f(0), f(5); }",
	`func f(a) { let b = rand(a); repeat b { b = b - 1; } if a < b && a != 2 || !(a == 1) { return min(a, -b); } else if a > 3 { return abs(a / b); } return b + input(1, 2); }
system A with Vel without Mark reads Box, Pair writes Pos {
	Pos.x = f(9) * Box.c % 3; let v = 0;
	while v <= 3 { spawn Box{a: 1, x: Pos.x}, Mark{}, Pair{b: f(4)}; add Pair{a: Box.a}; add Mark{}; v = v + 1; }
	if has(Mark) ? v >= 1 : 1 == 2 { stop; } else { remove Pos; die; emit Pos.x, f(max(tick, me)); }
}
func g() { return f(g1(3)); }
func g1(x) { }
system B writes Vel, Mark { Vel.x = g(); }`,
}

func compiled(t *testing.T, src string) api.Program {
	t.Helper()
	tree, err := syntax.Parse(src)
	if err != nil {
		t.Fatalf("the test's own source %s: %v", src, err)
	}
	c, err := check.Check(tree, kinds())
	if err != nil {
		t.Fatalf("the test's own source %s: %v", src, err)
	}
	p, e := compile.Compile(c)
	if e != api.OK {
		t.Fatalf("the test's own source %s: %v", src, e)
	}
	return p
}

// TestCompiled: what follows (P7), what compile makes is taken.
func TestCompiled(t *testing.T) {
	tower := func(depth int) string {
		return "system M { let a = " + strings.Repeat("min(1, ", depth-1) + "2" + strings.Repeat(")", depth-1) + "; }"
	}
	four := func(depth int) string { // four numbers for each call within another one, but not for the last one
		return "func h(a, b, c, d) { return d; } system M { emit 1, " + strings.Repeat("h(1, 2, 3, ", depth) + "4" + strings.Repeat(")", depth) + "; }"
	}
	var names []string
	for i := range 12 {
		names = append(names, fmt.Sprintf("K%d", i))
	}
	for i, src := range append(slices.Clone(sources), tower(15), four(15)) {
		p := compiled(t, src)
		want(t, src, p, "taken")
		wantRuns(t, rand.New(rand.NewSource(int64(i))), p, kinds(), map[api.Errno]int{})
		if compare(t, p, kinds()) != "taken" {
			t.Errorf("P7: %s is not taken", src)
		}
	}
	var all []api.Kind
	for _, name := range names {
		all = append(all, api.Kind{Name: name, Fields: []string{"a", "b", "c", "d"}})
	}
	tree, _ := syntax.Parse("system M { spawn " + strings.Join(names, "{}, ") + "{}; }")
	c, err := check.Check(tree, all)
	if err != nil {
		t.Fatal(err)
	}
	p, e := compile.Compile(c)
	if err := verify.Verify(p, all); e != api.OK || err != nil || len(p.Systems[0].Run.Code) != 1+48+12+1+1 {
		t.Errorf("P7: a spawn of all kinds there may be: %v, %v", e, err)
	}
}
