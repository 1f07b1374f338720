package syntax_test

import (
	"errors"
	"fmt"
	"math/rand"
	"strings"
	"sync"
	"testing"

	"hindcast/api"
	"hindcast/syntax"
)

// nodes are all of a tree, each as often as it stands there.
func nodes(n *node) []*node {
	var list []*node
	each(n, func(x *node) { list = append(list, x) })
	return list
}

// TestTreesAreNewMemory: P3 of Y1, a tree is the caller's, with each list in it and its spare room.
func TestTreesAreNewMemory(t *testing.T) {
	sources := []string{"", whole, "system S{}"}
	for seed := range 100 {
		src, _ := grow(rand.New(rand.NewSource(int64(seed))))
		sources = append(sources, src)
	}
	for _, src := range sources {
		one, err := syntax.Parse(src)
		if err != nil {
			continue
		}
		two := parse(t, src)
		want := show(two, true)
		seen := map[*node]bool{}
		for _, x := range append(nodes(one), nodes(two)...) {
			if seen[x] {
				t.Fatalf("P3: Parse(%q): a node stands in two places", src)
			}
			seen[x] = true
		}
		// What is appended to a list stands in no other one.
		junk := &node{Op: -1, Text: "spoilt"}
		for _, x := range nodes(one) {
			spare := x.L[len(x.L):cap(x.L)]
			for i := range spare {
				spare[i] = junk
			}
		}
		if show(one, true) != want || show(two, true) != want {
			t.Fatalf("P3: Parse(%q): the room behind a list is that of another one", src)
		}
		for _, x := range nodes(one) {
			for i := range x.L {
				x.L[i] = nil
			}
			*x = *junk
		}
		if show(two, true) != want || show(parse(t, src), true) != want {
			t.Fatalf("P3: Parse(%q): what is written into a tree stands in another one", src)
		}
	}
}

// TestFaultsAreNewMemory: P3 of Y1, a fault is the caller's.
func TestFaultsAreNewMemory(t *testing.T) {
	for _, src := range []string{"x", "@", "func f(a,b,c,d,e){}", "system S{a=" + strings.Repeat("-", 20), strings.Repeat(" ", api.MaxSource+1)} {
		_, first := syntax.Parse(src)
		_, second := syntax.Parse(src)
		var one, two *api.Fault
		if !errors.As(first, &one) || !errors.As(second, &two) {
			t.Fatalf("P5: Parse(%.20q): %v, %v, which are no faults", src, first, second)
		}
		want := *two
		*one = api.Fault{At: -1, Err: -1}
		if *two != want {
			t.Errorf("P3: Parse(%.20q): two faults share memory", src)
		}
		wantFault(t, src, want.At, want.Err)
	}
}

// TestNothingIsWrittenInto: P3 of Y2 and Y3, a tree that is handed in stays as it is, with the room behind its lists.
func TestNothingIsWrittenInto(t *testing.T) {
	for seed := range 300 {
		r := rand.New(rand.NewSource(int64(seed)))
		_, n := grow(r)
		if seed%3 == 0 {
			change(r, n)
		}
		mark := &node{Op: -5}
		for _, s := range gather(n) {
			s.it.L = append(s.it.L, mark, mark)[:len(s.it.L)]
		}
		want, other := show(n, true), copied(n)
		text := syntax.Print(n)
		syntax.Same(n, other)
		syntax.Same(other, n)
		if show(n, true) != want || show(other, true) != want || syntax.Print(n) != text {
			t.Fatalf("P3: Print or Same has changed %s", want)
		}
		for _, s := range gather(n) {
			if behind := s.it.L[len(s.it.L) : len(s.it.L)+2]; behind[0] != mark || behind[1] != mark {
				t.Fatalf("P3: Print or Same has written behind a list")
			}
		}
		if show(mark, true) != "-5@0" {
			t.Fatalf("P3: Print or Same has written into what stands behind a list")
		}
	}
}

// TestTreesAreNotKept: P3 of Y2 and Y3, what is asked of a tree hangs on it as it is now.
func TestTreesAreNotKept(t *testing.T) {
	n := parse(t, "func f(){return 1;}")
	other := parse(t, "func f(){return 1;}")
	wantPrint(t, n, "func f() {\n\treturn 1;\n}\n")
	wantSame(t, n, other, true)
	n.L[0].L[1].L[0].L[0].Num = 2
	wantPrint(t, n, "func f() {\n\treturn 2;\n}\n")
	wantSame(t, n, other, false)
	other.L[0].L[1].L[0].L[0].Num = 2
	wantSame(t, n, other, true)
}

// all tells everything that the calls say of a source.
func all(src string) string {
	n, err := syntax.Parse(src)
	if err != nil {
		return fmt.Sprint(n == nil, err)
	}
	again, err := syntax.Parse(syntax.Print(n))
	return fmt.Sprint(show(n, true), syntax.Print(n), err, syntax.Same(n, again))
}

// TestSideBySide: P4, what a call answers hangs on its arguments alone, whatever was asked ahead of it or beside it.
func TestSideBySide(t *testing.T) {
	sources := []string{"", whole, "system S {", "@", strings.Repeat("func f(){}", 17), "system S{" + strings.Repeat("die;", 201), "func f(){return " + strings.Repeat("(", 19) + "1" + strings.Repeat(")", 19) + ";}", "func f(){return " + strings.Repeat("(", 20)}
	for seed := range 20 {
		src, _ := grow(rand.New(rand.NewSource(int64(seed))))
		sources = append(sources, src)
	}
	var want []string
	for _, src := range sources {
		want = append(want, all(src))
	}
	shared := parse(t, whole)
	text := syntax.Print(shared)
	got := make([]string, 8*len(sources))
	var wait sync.WaitGroup
	for i := range got {
		wait.Go(func() {
			got[i] = all(sources[i%len(sources)])
			if syntax.Print(shared) != text || !syntax.Same(shared, shared) {
				got[i] = "another answer of one tree"
			}
		})
	}
	wait.Wait()
	for i := range got {
		if got[i] != want[i%len(sources)] {
			t.Errorf("P4: %.50q, beside others: %s, want %s", sources[i%len(sources)], got[i], want[i%len(sources)])
		}
	}
}
