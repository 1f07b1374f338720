package check_test

import (
	"errors"
	"fmt"
	"math/rand"
	"sync"
	"testing"

	"hindcast/api"
	"hindcast/check"
	"hindcast/syntax"
)

// tell is everything that a checked program says of itself.
func tell(c *check.Checked) string {
	return fmt.Sprint(show(c.Tree()), c.Systems(), c.Funcs(), c.Kinds())
}

// TestListsAreNewMemory: P3 of C3, what the calls answer is the caller's, with its spare room.
func TestListsAreNewMemory(t *testing.T) {
	for _, src := range []string{"", whole, "system M with Vel, Pos reads Box { } system N writes Mark, Pos { } func f(a, b, c) { }"} {
		c := wantTaken(t, src)
		want := tell(c)
		for range 2 {
			systems, funcs, list := c.Systems(), c.Funcs(), c.Kinds()
			other, otherFuncs, otherList := c.Systems(), c.Funcs(), c.Kinds()
			keep := fmt.Sprint(other, otherFuncs, otherList)
			for i := range systems {
				s := &systems[i]
				// What is written behind one set stands in no other one.
				for _, set := range []*[]int{&s.With, &s.Without, &s.Reads, &s.Writes} {
					ahead := fmt.Sprint(systems)
					_ = append(*set, -1, -2, -3)
					if fmt.Sprint(systems) != ahead {
						t.Fatalf("P3: the room behind a set of %s is that of another one", s.Run.Name)
					}
				}
				for _, set := range [][]int{s.With, s.Without, s.Reads, s.Writes} {
					for k := range set {
						set[k] = -9
					}
				}
				s.Run = api.Routine{Name: "spoilt", Locals: -1, Code: []api.Instr{{Op: 1}}}
			}
			for i := range funcs {
				funcs[i] = api.Routine{Name: "spoilt"}
			}
			for i := range list {
				_ = append(list[i].Fields, "spoilt", "spoilt")
			}
			if fmt.Sprint(list) != fmt.Sprint(kinds()) {
				t.Fatalf("P3: the room behind a kind's fields is that of another one: %v", list)
			}
			for i := range list {
				for k := range list[i].Fields {
					list[i].Fields[k] = "spoilt"
				}
				list[i] = api.Kind{}
			}
			_, _, _ = append(systems, api.System{}), append(funcs, api.Routine{}), append(list, api.Kind{})
			if fmt.Sprint(other, otherFuncs, otherList) != keep || tell(c) != want {
				t.Fatalf("P3: what is written into an answer stands in another one, of %s", src)
			}
		}
	}
}

// TestTreesAreNewMemory: P3 of C2, a checked tree shares no node and no list with the one that was handed in, nor with another one of it.
func TestTreesAreNewMemory(t *testing.T) {
	for seed := range 200 {
		src, list := grow(rand.New(rand.NewSource(int64(seed))), 0)
		n := parse(t, src)
		one, err := check.Check(n, list)
		two, bad := check.Check(n, list)
		if err != nil || bad != nil {
			t.Fatalf("C1: %s: %v, %v", src, err, bad)
		}
		want := tell(two)
		if tell(one) != want {
			t.Fatalf("P4: two answers of %s", src)
		}
		seen := map[*node]bool{}
		for _, tree := range []*node{n, one.Tree(), two.Tree()} {
			each(tree, func(x *node) {
				if seen[x] {
					t.Fatalf("P3: a node stands in two trees, of %s", src)
				}
				seen[x] = true
			})
		}
		// Now the tree that was handed in, and one of the checked ones, are spoilt.
		var spoil func(*node)
		spoil = func(x *node) {
			for i, child := range x.L {
				spoil(child)
				x.L[i] = nil
			}
			for i := range x.L[len(x.L):cap(x.L)] {
				x.L[len(x.L):cap(x.L)][i] = &node{Op: -1}
			}
			*x = node{Op: -1, Text: "spoilt"}
		}
		spoil(n)
		spoil(one.Tree())
		if tell(two) != want {
			t.Fatalf("P3: two trees share memory, of %s", src)
		}
	}
}

// TestNothingIsWrittenInto: P3 of C1, the tree and the kinds stay as they are, with the room behind them, whatever is answered.
func TestNothingIsWrittenInto(t *testing.T) {
	for seed := range 400 {
		src, list := grow(rand.New(rand.NewSource(int64(seed))), []int{0, 20}[seed%2])
		n, err := syntax.Parse(src)
		if err != nil {
			continue
		}
		junk := &node{Op: -5}
		each(n, func(x *node) { x.L = append(x.L, junk, junk)[:len(x.L)] })
		for i := range list {
			list[i].Fields = append(list[i].Fields, "behind")[:len(list[i].Fields)]
		}
		list = append(list, api.Kind{Name: "Behind"})[:len(list)]
		ahead, kindsAhead := show(n), fmt.Sprint(list)
		check.Check(n, list)
		if show(n) != ahead || fmt.Sprint(list) != kindsAhead || show(junk) != "-5:@0#0" {
			t.Fatalf("P3: Check has written into what was handed in: %s", src)
		}
		each(n, func(x *node) {
			if behind := x.L[len(x.L) : len(x.L)+2]; behind[0] != junk || behind[1] != junk {
				t.Fatalf("P3: Check has written behind a list: %s", src)
			}
		})
		for _, k := range list {
			if k.Fields[:len(k.Fields)+1][len(k.Fields)] != "behind" {
				t.Fatalf("P3: Check has written behind a kind's fields: %s", src)
			}
		}
		if list[:len(list)+1][len(list)].Name != "Behind" {
			t.Fatalf("P3: Check has written behind the kinds: %s", src)
		}
	}
}

// TestNothingIsKept: P3 of C1, kinds are the caller's again behind a call.
func TestNothingIsKept(t *testing.T) {
	own := kinds()
	c, err := check.Check(parse(t, whole), own)
	if err != nil {
		t.Fatalf("C1: %v", err)
	}
	want := tell(c)
	own[0].Name, own[1].Fields[0], own[3] = "Q", "q", api.Kind{}
	if tell(c) != want {
		t.Errorf("P3: a program has kept kinds that were handed in")
	}
}

// TestFaultsAreNewMemory: P3 of C1, a fault is the caller's.
func TestFaultsAreNewMemory(t *testing.T) {
	for _, src := range []string{"system M { x = 1; }", "system M { } system M { }", "func f() { return f(); }", "func f(a, a) { }"} {
		for _, list := range [][]api.Kind{kinds(), nil} {
			n := parse(t, src)
			_, first := check.Check(n, list)
			_, second := check.Check(n, list)
			var one, two *api.Fault
			if !errors.As(first, &one) || !errors.As(second, &two) {
				t.Fatalf("P5: %s: %v, %v, which are no faults", src, first, second)
			}
			want := *two
			*one = api.Fault{At: -1, Err: -1}
			_, third := check.Check(n, list)
			if *two != want || *third.(*api.Fault) != want {
				t.Errorf("P3: %s: two faults share memory", src)
			}
		}
	}
}

// answer is all that Check says.
func answer(n *node, list []api.Kind) string {
	c, err := check.Check(n, list)
	if err != nil {
		return fmt.Sprint(c == nil, err)
	}
	return tell(c)
}

// TestSideBySide: P4, what a call answers hangs on its arguments alone, whatever was asked ahead of it or beside it; and a program may be asked by many at a time.
func TestSideBySide(t *testing.T) {
	var trees []*node
	var lists [][]api.Kind
	var want []string
	for seed := range 40 {
		src, list := grow(rand.New(rand.NewSource(int64(seed))), []int{0, 30}[seed%2])
		n, err := syntax.Parse(src)
		if err != nil {
			continue
		}
		trees, lists, want = append(trees, n), append(lists, list), append(want, answer(n, list))
	}
	shared := wantTaken(t, whole)
	told := tell(shared)
	got := make([]string, 6*len(trees))
	var wait sync.WaitGroup
	for i := range got {
		wait.Go(func() {
			got[i] = answer(trees[i%len(trees)], lists[i%len(trees)])
			if tell(shared) != told {
				got[i] = "another answer of one program"
			}
		})
	}
	wait.Wait()
	for i := range got {
		if got[i] != want[i%len(trees)] {
			t.Errorf("P4: beside others: %s, want %s", got[i], want[i%len(trees)])
		}
	}
}

// TestAgain: P4 and C2, a checked tree that is checked again is the same.
func TestAgain(t *testing.T) {
	c := wantTaken(t, whole)
	again, err := check.Check(c.Tree(), c.Kinds())
	if err != nil || tell(again) != tell(c) {
		t.Errorf("C2: a checked tree, checked again: %v", err)
	}
}
