package check_test

import (
	"fmt"
	"reflect"
	"testing"

	"hindcast/api"
	"hindcast/check"
	"hindcast/syntax"
)

// whole has every op, and numbers that are unlike one another where they can be.
const whole = `func two(a, b) { let c = a; repeat b { c = c + 7; let d = b; d = c; } if c > b { let e = 1; return e; } return c; }
system Move with Mark without Box reads Vel writes Pos {
	let s = Vel.y;
	Pos.y = two(s, 3) + Pos.x;
	spawn Box{b: s, x: 1}, Mark{}, Pos{y: 2};
	add Vel{y: s};
	remove Vel;
	if has(Mark) { let u = s; u = abs(u); } else if !has(Box) { repeat me { let w = tick; emit w, -w; } } else { die; }
	while s < 1 ? has(Pos) : 1 == 2 { s = min(s, one()); stop; }
}
func one() { return two(1, 2); }
system Last { emit one(), tick; }
func none(p, q, r, s) { return s; }
`

// TestTree: C2, the numbers of all ops.
func TestTree(t *testing.T) {
	c := wantTaken(t, whole)
	type line struct {
		op   int
		text string
		num  int64
	}
	var got []line
	each(c.Tree(), func(n *node) {
		switch n.Op {
		case syntax.Binary, syntax.Unary, syntax.Block, syntax.Clause:
			if n.Num != 0 {
				t.Errorf("C2: a node of op %d has the number %d", n.Op, n.Num)
			}
			return
		}
		got = append(got, line{n.Op, n.Text, n.Num})
	})
	want := []line{
		{syntax.Program, "", 0},
		{syntax.Func, "two", 6}, {syntax.Name, "a", 0}, {syntax.Name, "b", 1},
		{syntax.Let, "c", 2}, {syntax.Name, "a", 0},
		{syntax.Repeat, "", 3}, {syntax.Name, "b", 1},
		{syntax.Set, "c", 2}, {syntax.Name, "c", 2}, {syntax.Number, "", 7},
		{syntax.Let, "d", 4}, {syntax.Name, "b", 1}, {syntax.Set, "d", 4}, {syntax.Name, "c", 2},
		{syntax.If, "", 0}, {syntax.Name, "c", 2}, {syntax.Name, "b", 1},
		{syntax.Let, "e", 5}, {syntax.Number, "", 1}, {syntax.Return, "", 0}, {syntax.Name, "e", 5},
		{syntax.Return, "", 0}, {syntax.Name, "c", 2},

		{syntax.System, "Move", 4}, {syntax.Name, "Mark", 3}, {syntax.Name, "Box", 4}, {syntax.Name, "Vel", 2}, {syntax.Name, "Pos", 1},
		{syntax.Let, "s", 0}, {syntax.Field, "Vel", 2}, {syntax.Name, "y", 1},
		{syntax.SetField, "Pos", 1}, {syntax.Name, "y", 1}, {syntax.Call, "two", 0}, {syntax.Name, "s", 0}, {syntax.Number, "", 3}, {syntax.Field, "Pos", 1}, {syntax.Name, "x", 0},
		{syntax.Spawn, "", 0}, {syntax.Part, "Box", 4}, {syntax.Value, "b", 1}, {syntax.Name, "s", 0}, {syntax.Value, "x", 3}, {syntax.Number, "", 1},
		{syntax.Part, "Mark", 3}, {syntax.Part, "Pos", 1}, {syntax.Value, "y", 1}, {syntax.Number, "", 2},
		{syntax.Add, "", 0}, {syntax.Part, "Vel", 2}, {syntax.Value, "y", 1}, {syntax.Name, "s", 0},
		{syntax.Remove, "Vel", 2},
		{syntax.If, "", 0}, {syntax.Has, "Mark", 3}, {syntax.Let, "u", 1}, {syntax.Name, "s", 0}, {syntax.Set, "u", 1}, {syntax.Call, "abs", 0}, {syntax.Name, "u", 1},
		{syntax.If, "", 0}, {syntax.Has, "Box", 4}, {syntax.Repeat, "", 2}, {syntax.Word, "me", 0}, {syntax.Let, "w", 3}, {syntax.Word, "tick", 0}, {syntax.Emit, "", 0}, {syntax.Name, "w", 3}, {syntax.Name, "w", 3},
		{syntax.Die, "", 0},
		{syntax.While, "", 0}, {syntax.Cond, "", 0}, {syntax.Name, "s", 0}, {syntax.Number, "", 1}, {syntax.Has, "Pos", 1}, {syntax.Number, "", 1}, {syntax.Number, "", 2},
		{syntax.Set, "s", 0}, {syntax.Call, "min", 0}, {syntax.Name, "s", 0}, {syntax.Call, "one", 1}, {syntax.Stop, "", 0},

		{syntax.Func, "one", 0}, {syntax.Return, "", 0}, {syntax.Call, "two", 0}, {syntax.Number, "", 1}, {syntax.Number, "", 2},
		{syntax.System, "Last", 0}, {syntax.Emit, "", 0}, {syntax.Call, "one", 1}, {syntax.Word, "tick", 0},
		{syntax.Func, "none", 4}, {syntax.Name, "p", 0}, {syntax.Name, "q", 1}, {syntax.Name, "r", 2}, {syntax.Name, "s", 3}, {syntax.Return, "", 0}, {syntax.Name, "s", 3},
	}
	for i, x := range want {
		if i >= len(got) || got[i] != x {
			t.Fatalf("C2: node %d of %v, want %v", i, got, x)
		}
	}
	if len(got) != len(want) {
		t.Errorf("C2: %d nodes, want %d", len(got), len(want))
	}
}

// TestTreeIsTheSame: C2 and 'What follows', a checked tree has the ops, texts, places and children of the one that was handed in, which stays as it is; it is one and the same at each call.
func TestTreeIsTheSame(t *testing.T) {
	for _, src := range []string{"", whole, "system M { let a = 9223372036854775807; a = 0; }"} {
		n := parse(t, src)
		ahead := show(n)
		c, err := check.Check(n, kinds())
		if err != nil {
			t.Fatalf("C1: %v", err)
		}
		if show(n) != ahead {
			t.Errorf("P3: the tree that was handed in is another one now: %s", show(n))
		}
		if c.Tree() == nil || c.Tree() != c.Tree() {
			t.Errorf("C2: the tree is not one and the same")
		}
		bare := copied(c.Tree())
		each(bare, func(x *node) {
			if x.Op != syntax.Number {
				x.Num = 0
			}
		})
		if show(bare) != ahead || !syntax.Same(bare, n) {
			t.Errorf("C2: %s is not the tree that was handed in, but for numbers: %s", show(bare), ahead)
		}
		if syntax.Print(c.Tree()) != syntax.Print(n) {
			t.Errorf("C2: Print of the checked tree is another source")
		}
	}
}

// TestScopesHaveSlots: C2, each let and each repeat has a slot of its own, in the order of the source, whatever they are called.
func TestScopesHaveSlots(t *testing.T) {
	c := wantTaken(t, "func f(p) { if 1 < 2 { let a = p; a = 1; } else { let a = 2; repeat 1 { let b = a; b = 1; } a = 3; } let a = 4; let b = a; p = b; } system M { repeat 1 { repeat 2 { } } let a = 1; }")
	slots := ""
	each(c.Tree(), func(n *node) {
		switch n.Op {
		case syntax.Let, syntax.Set, syntax.Repeat, syntax.System, syntax.Func:
			slots += fmt.Sprint(n.Text, n.Num, " ")
		}
	})
	if want := "f7 a1 a1 a2 3 b4 b4 a2 a5 b6 p0 M3 0 1 a2 "; slots != want {
		t.Errorf("C2: slots %s, want %s", slots, want)
	}
}

// TestLists: C3, systems, functions and kinds.
func TestLists(t *testing.T) {
	c := wantTaken(t, whole)
	systems := []api.System{
		{With: []int{3}, Without: []int{4}, Reads: []int{2}, Writes: []int{1}, Run: api.Routine{Name: "Move", Locals: 4}},
		{Run: api.Routine{Name: "Last"}},
	}
	if got := c.Systems(); !reflect.DeepEqual(plainSystems(got), systems) {
		t.Errorf("C3: Systems: %v, want %v", got, systems)
	}
	funcs := []api.Routine{{Name: "two", Params: 2, Locals: 6}, {Name: "one"}, {Name: "none", Params: 4, Locals: 4}}
	if got := c.Funcs(); !reflect.DeepEqual(plainRoutines(got), funcs) {
		t.Errorf("C3: Funcs: %v, want %v", got, funcs)
	}
	if got := fmt.Sprint(c.Kinds()); got != fmt.Sprint(kinds()) {
		t.Errorf("C3: Kinds: %v", got)
	}
	none := wantTaken(t, "")
	if len(none.Systems()) != 0 || len(none.Funcs()) != 0 || fmt.Sprint(none.Kinds()) != fmt.Sprint(kinds()) {
		t.Errorf("C3: of a program without anything: %v, %v, %v", none.Systems(), none.Funcs(), none.Kinds())
	}
}

// TestSetsRise: C3, each of the four sets rises, in whatever order the names stand.
func TestSetsRise(t *testing.T) {
	list := manyKinds(12)
	for i, clauses := range []struct{ src, want string }{
		{"with K3, K1, K2", "[2 3 4] [] [] []"},
		{"without K11, K0", "[] [1 12] [] []"},
		{"reads K9, K10, K8", "[] [] [9 10 11] []"},
		{"writes K5, K4", "[] [] [] [5 6]"},
		{"with K11, K10, K9 without K8, K7, K6 reads K5, K4, K3 writes K2, K1, K0", "[10 11 12] [7 8 9] [4 5 6] [1 2 3]"},
		{"writes K11, K0, K10, K1, K9, K2, K8, K3, K7, K4, K6, K5", "[] [] [] [1 2 3 4 5 6 7 8 9 10 11 12]"},
	} {
		n := parse(t, "system M "+clauses.src+" { }")
		c, err := check.Check(n, list)
		if err != nil {
			t.Fatalf("C1: clauses %d: %v", i, err)
		}
		s := c.Systems()[0]
		if got := fmt.Sprint(s.With, s.Without, s.Reads, s.Writes); got != clauses.want {
			t.Errorf("C3: %s: %s, want %s", clauses.src, got, clauses.want)
		}
	}
}

// plainSystems makes lists of nothing nil, as either may be answered.
func plainSystems(list []api.System) []api.System {
	for i := range list {
		s := &list[i]
		for _, set := range []*[]int{&s.With, &s.Without, &s.Reads, &s.Writes} {
			if len(*set) == 0 {
				*set = nil
			}
		}
		if len(s.Run.Code) == 0 {
			s.Run.Code = nil
		}
	}
	return list
}

func plainRoutines(list []api.Routine) []api.Routine {
	for i := range list {
		if len(list[i].Code) == 0 {
			list[i].Code = nil
		}
	}
	return list
}
