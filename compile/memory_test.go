package compile_test

import (
	"fmt"
	"math/rand"
	"sync"
	"testing"

	"hindcast/api"
	"hindcast/check"
	"hindcast/compile"
	"hindcast/syntax"
)

// busy has all there is in a program.
const busy = `func f(a) { let b = rand(a); repeat b { b = b - 1; } if a < b && a != 2 || !(a == 1) { return min(a, -b); } else if a > 3 { return abs(a / b); } return b + input(1, 2); }
system A with Vel without Mark reads Box, Pair writes Pos {
	Pos.x = f(9) * Box.c % 3; let v = 0;
	while v <= 3 { spawn Box{a: 1, x: Pos.x}, Mark{}, Pair{b: f(4)}; add Pair{a: Box.a}; add Mark{}; v = v + 1; }
	if has(Mark) ? v >= 1 : 1 == 2 { stop; } else { remove Pos; die; emit Pos.x, f(max(tick, me)); }
}
func g() { return f(g1(3)); }
func g1(x) { }
system B writes Vel, Mark { Vel.x = g(); }`

// whole is everything that a checked program says of itself.
func whole(c *check.Checked) string {
	var show func(n *syntax.Node) string
	show = func(n *syntax.Node) string {
		text := fmt.Sprint(n.Op, n.Text, n.Num, n.At)
		for _, child := range n.L {
			text += " (" + show(child) + ")"
		}
		return text
	}
	return fmt.Sprint(show(c.Tree()), c.Systems(), c.Funcs(), c.Kinds())
}

// numbersOf are all lists of kinds in a program.
func numbersOf(p api.Program) []*[]int {
	var lists []*[]int
	for i := range p.Systems {
		s := &p.Systems[i]
		lists = append(lists, &s.With, &s.Without, &s.Reads, &s.Writes)
	}
	return lists
}

// codesOf are all lists of instructions in a program.
func codesOf(p api.Program) []*[]api.Instr {
	var lists []*[]api.Instr
	for i := range p.Systems {
		lists = append(lists, &p.Systems[i].Run.Code)
	}
	for i := range p.Funcs {
		lists = append(lists, &p.Funcs[i].Code)
	}
	return lists
}

// flood writes into a list, and into the room behind it.
func flood[T any](list []T, junk T) {
	all := list[:cap(list)]
	for i := range all {
		all[i] = junk
	}
}

// spoil writes into all of a program, and into the room behind its lists.
func spoil(p api.Program) {
	for _, list := range numbersOf(p) {
		flood(*list, -77)
	}
	for _, list := range codesOf(p) {
		flood(*list, api.Instr{Op: -77})
	}
	flood(p.Systems, api.System{Run: api.Routine{Name: "spoilt"}})
	flood(p.Funcs, api.Routine{Name: "spoilt"})
}

// TestProgramsAreNewMemory: P3, what is written into a program stands in no other one, nor in what it was made of.
func TestProgramsAreNewMemory(t *testing.T) {
	c := checked(t, busy)
	before, want := whole(c), told(compiled(t, busy))
	for range 3 {
		one, e := compile.Compile(c)
		two, other := compile.Compile(c)
		if e != api.OK || other != api.OK || told(one) != want {
			t.Fatalf("P4: another answer for the same program: errors %d, %d", e, other)
		}
		spoil(one)
		if told(two) != want || whole(c) != before {
			t.Fatalf("P3: what is written into a program stands elsewhere, too")
		}
	}
}

// TestListsAreApart: P3, no two lists of a program share memory, nor does the room behind them.
func TestListsAreApart(t *testing.T) {
	one := compiled(t, busy)
	for i := range numbersOf(one) {
		p, want := compiled(t, busy), compiled(t, busy)
		flood(*numbersOf(p)[i], -77)
		*numbersOf(p)[i], *numbersOf(want)[i] = nil, nil
		if told(p) != told(want) {
			t.Errorf("P3: the set %d shares memory with another list", i)
		}
	}
	for i := range codesOf(one) {
		p, want := compiled(t, busy), compiled(t, busy)
		flood(*codesOf(p)[i], api.Instr{Op: 1, A: -77})
		*codesOf(p)[i], *codesOf(want)[i] = nil, nil
		if told(p) != told(want) {
			t.Errorf("P3: the code %d shares memory with another list", i)
		}
	}
}

// TestNothingIsWrittenInto: P3, a program that is compiled, or refused, is as it was.
func TestNothingIsWrittenInto(t *testing.T) {
	for seed := range 300 {
		r := rand.New(rand.NewSource(int64(seed)))
		src, list := grow(r)
		c := checkedFor(t, src, list)
		before := whole(c)
		p, _ := compile.Compile(c)
		spoil(p)
		if whole(c) != before {
			t.Fatalf("P3: the program that was handed in is another one: %s", src)
		}
	}
}

// TestNothingIsKept: P4, what is answered hangs on nothing that was compiled ahead, nor on what was refused.
func TestNothingIsKept(t *testing.T) {
	want := told(compiled(t, busy))
	for _, src := range []string{"system M { die; }", "func f() { " + fill(2500, "v") + " }", "system M { let a = " + tower(70, "1") + "; }" + stackFuncs, ""} {
		compile.Compile(checked(t, src))
		compile.Compile(nil)
		if told(compiled(t, busy)) != want {
			t.Errorf("P4: another answer behind %.100s", src)
		}
	}
}

// TestSideBySide: P4, many may compile one program at a time.
func TestSideBySide(t *testing.T) {
	var all []*check.Checked
	var wants []string
	for seed := range 40 {
		src, list := grow(rand.New(rand.NewSource(int64(seed))))
		c := checkedFor(t, src, list)
		p, e := compile.Compile(c)
		all, wants = append(all, c), append(wants, fmt.Sprint(e, told(p)))
	}
	var group sync.WaitGroup
	for worker := range 8 {
		group.Go(func() {
			for i := range all {
				k := (i + worker*5) % len(all)
				p, e := compile.Compile(all[k])
				if fmt.Sprint(e, told(p)) != wants[k] {
					t.Errorf("P4: another answer beside others, of the source %d", k)
				}
				spoil(p)
			}
		})
	}
	group.Wait()
}
