package syntax_test

import (
	"math"
	"math/rand"
	"slices"
	"testing"

	"hindcast/syntax"
)

func wantSame(t *testing.T, a, b *node, want bool) {
	t.Helper()
	if syntax.Same(a, b) != want || syntax.Same(b, a) != want {
		t.Errorf("Y3: Same of %.500s and %.500s: %v and, turned round, %v, want %v", show(a, true), show(b, true), syntax.Same(a, b), syntax.Same(b, a), want)
	}
}

// TestSame: Y3, ops, texts, numbers and children count, places do not.
func TestSame(t *testing.T) {
	wantSame(t, nil, nil, true)
	wantSame(t, nil, &node{}, false)
	wantSame(t, &node{}, &node{}, true)
	wantSame(t, &node{At: 1}, &node{At: -2}, true)
	wantSame(t, &node{L: []*node{}}, &node{L: nil}, true)
	wantSame(t, &node{Op: 1}, &node{Op: 2}, false)
	wantSame(t, &node{Op: math.MaxInt}, &node{Op: math.MinInt}, false)
	wantSame(t, &node{Text: "a"}, &node{Text: "b"}, false)
	wantSame(t, &node{Text: ""}, &node{Text: "\x00"}, false)
	wantSame(t, &node{Num: 1}, &node{Num: -1}, false)
	wantSame(t, &node{Num: math.MaxInt64}, &node{Num: math.MinInt64}, false)
	wantSame(t, &node{Op: -7, Text: "\xff", Num: -9, L: []*node{nil, {Op: 3}}}, &node{Op: -7, Text: "\xff", Num: -9, L: []*node{nil, {Op: 3, At: 9}}}, true)
	wantSame(t, &node{L: []*node{nil}}, &node{}, false)
	wantSame(t, &node{L: []*node{nil}}, &node{L: []*node{nil, nil}}, false)
	wantSame(t, &node{L: []*node{nil}}, &node{L: []*node{{}}}, false)
	wantSame(t, mk(1, "", num(1), num(2)), mk(1, "", num(1), num(2)), true)
	wantSame(t, mk(1, "", num(1), num(2)), mk(1, "", num(2), num(1)), false)
	wantSame(t, mk(1, "", num(1), num(2)), mk(1, "", num(1), num(3)), false)
	wantSame(t, mk(1, "", num(1), num(2)), mk(1, "", num(3), num(2)), false)
	wantSame(t, mk(1, "", mk(1, "", num(1)), num(2)), mk(1, "", mk(1, ""), num(1), num(2)), false)
}

// TestSameSources: Y3, sources that differ in what leaves no node are the same, others are not.
func TestSameSources(t *testing.T) {
	sources := []string{
		"", "system S{a=1;}", "system T{a=1;}", "system S{b=1;}", "system S{a=2;}", "system S{a=b;}", "system S{a=1;a=1;}", "system S with A{a=1;}", "system S without A{a=1;}", "system S{let a=1;}", "func S(){a=1;}", "system S{a=-1;}", "system S{while a{}}", "system S{repeat a{}}", "system S{if a{}}", "system S{if a{}else{}}",
		"func f(a,b){}", "func f(b,a){}", "func f(a){}", "func f(){return a-b-c;}", "func f(){return a-(b-c);}", "func f(){return tick;}", "func f(){return me;}", "func f(){}func g(){}", "func g(){}func f(){}", "system S{spawn;}", "system S{spawn A{};}", "system S{add A{};}", "system S{die;}", "system S{stop;}",
	}
	for i, one := range sources {
		for k, two := range sources {
			wantSame(t, parse(t, one), parse(t, two), i == k)
		}
		wantSame(t, parse(t, one), parse(t, " // x\n"+one+"\n"), true)
		wantSame(t, parse(t, one), nil, false)
	}
	wantSame(t, parse(t, "system S { a = ( ( 1 ) ) ; }"), parse(t, "system S{a=1;}"), true)
	wantSame(t, parse(t, "func f(){return (a-b)-c;}"), parse(t, "func f(){return a-b-c;}"), true)
}

// copied is a tree like another one, of its own nodes.
func copied(n *node) *node {
	if n == nil {
		return nil
	}
	c := *n
	c.L = nil
	for _, child := range n.L {
		c.L = append(c.L, copied(child))
	}
	return &c
}

// TestSameAny: Y3, any trees, against what is told of them.
func TestSameAny(t *testing.T) {
	same := 0
	for seed := range 3000 {
		r := rand.New(rand.NewSource(int64(seed)))
		_, a := grow(r)
		change(r, a)
		b := copied(a)
		wantSame(t, a, b, true)
		change(r, b)
		if r.Intn(2) == 0 {
			b.At++
		}
		want := show(a, false) == show(b, false)
		wantSame(t, a, b, want)
		if want {
			same++
		}
	}
	if same < 50 || same > 2950 {
		t.Errorf("%d of 3000 trees are the same", same)
	}
}

// TestSameEverywhere: Y3, whatever is changed at one node of a tree is seen.
func TestSameEverywhere(t *testing.T) {
	n := parse(t, whole)
	for i := range gather(n) {
		for k, spoil := range []func(*node){
			func(x *node) { x.Op++ }, func(x *node) { x.Text += "a" }, func(x *node) { x.Num++ }, func(x *node) { x.L = append(x.L, nil) }, func(x *node) { x.L = append(x.L, num(1)) },
			func(x *node) { x.L = []*node{nil, nil, nil, nil, nil, nil, nil} }, func(x *node) { x.At++ },
		} {
			other := parse(t, whole)
			spoil(gather(other)[i].it)
			wantSame(t, n, other, k == 6)
		}
	}
}

// doubled is a tree of a few nodes that stand in 2^high places.
func doubled(high int, leaf *node) *node {
	for range high {
		leaf = mk(syntax.Binary, "+", leaf, leaf)
	}
	return leaf
}

// TestSameShared: Y3 and P1, nodes that stand in many places, in one tree more than in the other.
func TestSameShared(t *testing.T) {
	one, two := num(1), num(2)
	wantSame(t, mk(1, "", one, one), mk(1, "", num(1), num(1)), true)
	wantSame(t, mk(1, "", one, two), mk(1, "", one, one), false)
	wantSame(t, mk(1, "", one, two, one), mk(1, "", num(1), num(2), num(1)), true)
	wantSame(t, mk(1, "", one, two, one), mk(1, "", num(1), num(2), num(2)), false)
	wantSame(t, doubled(10, num(1)), copied(doubled(10, num(1))), true)
	for _, high := range []int{30, 64, 1000} {
		if !syntax.Same(doubled(high, num(1)), doubled(high, num(1))) {
			t.Errorf("Y3: two trees of %d nodes in 2^%d places are not the same", high, high)
		}
		if syntax.Same(doubled(high, num(1)), doubled(high, num(2))) || syntax.Same(doubled(high, num(1)), doubled(high+1, num(1))) {
			t.Errorf("Y3: two trees of %d nodes in 2^%d places are the same", high, high)
		}
		// The one leaf that differs stands in one place alone.
		a, b := num(1), num(2)
		for i := range high {
			a = mk(syntax.Binary, "+", a, doubled(i, num(1)))
			b = mk(syntax.Binary, "+", b, doubled(i, num(1)))
		}
		if syntax.Same(a, b) || !syntax.Same(a, a) {
			t.Errorf("Y3: a leaf in one of 2^%d places is not seen", high)
		}
	}
}

// TestSameCrossed: Y3 and P1, layers of nodes that stand in one another in all ways, so that each of one tree meets each of the other one.
func TestSameCrossed(t *testing.T) {
	crossed := func(seed int64, wide, high int) *node {
		r := rand.New(rand.NewSource(seed))
		layer := make([]*node, wide)
		for i := range layer {
			layer[i] = num(1)
		}
		for range high {
			next := make([]*node, wide)
			for i := range next {
				next[i] = mk(syntax.Binary, "+", layer[r.Intn(wide)], layer[r.Intn(wide)])
			}
			layer = next
		}
		return layer[0]
	}
	if !syntax.Same(crossed(1, 2000, 60), crossed(2, 2000, 60)) {
		t.Errorf("Y3: trees of crossed layers are not the same")
	}
	if syntax.Same(crossed(1, 2000, 60), crossed(2, 2000, 61)) {
		t.Errorf("Y3: trees of crossed layers, one of which is higher, are the same")
	}
}

// TestSameDeep: Y3 and P1, trees that are deep, or wide.
func TestSameDeep(t *testing.T) {
	chain := func(size int, leaf *node) *node {
		for range size {
			leaf = mk(syntax.Unary, "-", leaf)
		}
		return leaf
	}
	for _, size := range []int{1 << 16, 1 << 20} {
		if !syntax.Same(chain(size, num(1)), chain(size, num(1))) {
			t.Errorf("Y3: two chains of %d are not the same", size)
		}
		if syntax.Same(chain(size, num(1)), chain(size, num(2))) || syntax.Same(chain(size, num(1)), chain(size+1, num(1))) {
			t.Errorf("Y3: two chains of %d are the same", size)
		}
	}
	wide := mk(syntax.Block, "", slices.Repeat([]*node{num(1)}, 1<<20)...)
	other := mk(syntax.Block, "", slices.Repeat([]*node{num(1)}, 1<<20)...)
	if !syntax.Same(wide, other) {
		t.Errorf("Y3: two wide trees are not the same")
	}
	other.L[1<<19] = num(2)
	if syntax.Same(wide, other) {
		t.Errorf("Y3: two wide trees are the same")
	}
}

// FuzzSame: Y3 and P1, at trees that are changed.
func FuzzSame(f *testing.F) {
	f.Add(int64(1), int64(2))
	f.Fuzz(func(t *testing.T, seed, other int64) {
		r := rand.New(rand.NewSource(seed))
		_, a := grow(r)
		b := copied(a)
		change(rand.New(rand.NewSource(other)), b)
		wantSame(t, a, b, show(a, false) == show(b, false))
	})
}
