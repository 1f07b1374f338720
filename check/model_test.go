package check_test

import (
	"errors"
	"fmt"
	"math/rand"
	"regexp"
	"slices"
	"strings"
	"testing"

	"hindcast/api"
	"hindcast/check"
	"hindcast/lex"
	"hindcast/syntax"
)

// model is the chapter's words, asked of one node at a time, going by the way down to it alone: it has no scopes and gives nothing up.
type model struct {
	kinds []api.Kind
	tree  *node
}

// spot is a node, by the way down to it from the program: path[i+1] is the child at[i] of path[i].
type spot struct {
	path []*node
	at   []int
}

func (s spot) node() *node   { return s.path[len(s.path)-1] }
func (s spot) parent() *node { return s.path[len(s.path)-2] }
func (s spot) member() *node { return s.path[1] }
func (s spot) index() int    { return s.at[len(s.at)-1] }
func (s spot) up() spot      { return spot{s.path[:len(s.path)-1], s.at[:len(s.at)-1]} }
func (s spot) child(i int) spot {
	return spot{append(slices.Clone(s.path), s.node().L[i]), append(slices.Clone(s.at), i)}
}

// spots are all below and at one, from top to bottom.
func (s spot) spots() []spot {
	list := []spot{s}
	for i := range s.node().L {
		list = append(list, s.child(i).spots()...)
	}
	return list
}

func (m model) kind(name string) int {
	for i, k := range m.kinds {
		if k.Name == name {
			return i + 1
		}
	}
	return 0
}

func (m model) field(kind string, name string) int {
	return slices.Index(m.kinds[m.kind(kind)-1].Fields, name)
}

func (m model) function(name string) (*node, int) {
	number := 0
	for _, n := range m.tree.L {
		if n.Op == syntax.Func && n.Text == name {
			return n, number
		} else if n.Op == syntax.Func {
			number++
		}
	}
	return nil, 0
}

var word = regexp.MustCompile(`^[A-Za-z][A-Za-z0-9_]{0,15}$`)

func mayBe(kinds []api.Kind) bool {
	names := map[string]bool{}
	for _, k := range kinds {
		fields := map[string]bool{}
		for _, f := range k.Fields {
			if fields[f] || !word.MatchString(f) {
				return false
			}
			fields[f] = true
		}
		if names[k.Name] || !word.MatchString(k.Name) || len(k.Fields) > 4 {
			return false
		}
		names[k.Name] = true
	}
	return len(kinds) >= 1 && len(kinds) <= 12
}

// slot counts what stands ahead of a let or repeat in its member, and the parameters.
func slot(member *node, what *node) int {
	count, found := 0, false
	if member.Op == syntax.Func {
		count = len(member.L[0].L)
	}
	each(member, func(n *node) {
		found = found || n == what
		if !found && (n.Op == syntax.Let || n.Op == syntax.Repeat) {
			count++
		}
	})
	return count
}

// known looks for a variable at a spot: a let ahead of it in a block that it stands in, or a parameter.
func known(s spot, name string) (slotOf int, ok bool) {
	for i, at := range s.at {
		if s.path[i].Op != syntax.Block {
			continue
		}
		for _, n := range s.path[i].L[:at] {
			if n.Op == syntax.Let && n.Text == name {
				return slot(s.member(), n), true
			}
		}
	}
	if s.member().Op == syntax.Func {
		for i, p := range s.member().L[0].L {
			if p.Text == name {
				return i, true
			}
		}
	}
	return 0, false
}

// declares tells whether a system has a kind in one of these clauses.
func declares(system *node, kind string, clauses ...int) bool {
	for _, c := range clauses {
		for _, name := range system.L[c].L {
			if name.Text == kind {
				return true
			}
		}
	}
	return false
}

// wantsTruth tells whether an expression is wanted as a truth where it stands.
func wantsTruth(s spot) bool {
	switch p := s.parent(); p.Op {
	case syntax.If, syntax.While:
		return true
	case syntax.Binary, syntax.Unary:
		return p.Text == "&&" || p.Text == "||" || p.Text == "!"
	case syntax.Cond:
		return s.index() == 0 || wantsTruth(s.up())
	}
	return false
}

func isTruth(s spot) bool {
	switch n := s.node(); n.Op {
	case syntax.Binary, syntax.Unary:
		return strings.Contains(" == != < <= > >= && || ! ", " "+n.Text+" ")
	case syntax.Has:
		return true
	case syntax.Cond:
		return wantsTruth(s)
	}
	return false
}

func isExpression(s spot) bool {
	n, p := s.node(), s.parent()
	if n.Op == syntax.Name && (p.Op == syntax.Clause || p.Op == syntax.Field || p.Op == syntax.SetField && s.index() == 0) {
		return false
	}
	return n.Op >= syntax.Number
}

// wrong is the first fault of a node in a block, without those of what stands in it.
func (m model) wrong(s spot) api.Errno {
	n, inFunc := s.node(), s.member().Op == syntax.Func
	if isExpression(s) {
		return m.wrongExpression(s, inFunc)
	}
	unknown := m.kind(n.Text) == 0
	_, isKnown := known(s, n.Text)
	tooMany := slot(s.member(), n) >= api.MaxLocals
	switch n.Op {
	case syntax.Let:
		return first(isKnown, api.ErrTwice, tooMany, api.ErrLong)
	case syntax.Repeat:
		return first(tooMany, api.ErrLong)
	case syntax.Set:
		return first(!isKnown, api.ErrName)
	case syntax.SetField:
		return first(inFunc, api.ErrState, unknown, api.ErrName, !inFunc && !declares(s.member(), n.Text, 3), api.ErrWrite)
	case syntax.Emit, syntax.Spawn, syntax.Add, syntax.Die, syntax.Stop:
		return first(inFunc, api.ErrState)
	case syntax.Remove:
		return first(inFunc, api.ErrState, unknown, api.ErrName)
	case syntax.Return:
		return first(!inFunc, api.ErrState)
	case syntax.Name: // a field
		return first(m.field(s.parent().Text, n.Text) < 0, api.ErrField)
	case syntax.Part:
		twice := slices.ContainsFunc(s.parent().L[:s.index()], func(x *node) bool { return x.Text == n.Text })
		return first(unknown, api.ErrName, twice, api.ErrTwice)
	case syntax.Value:
		field, ahead := m.field(s.parent().Text, n.Text), -1
		if s.index() > 0 {
			ahead = m.field(s.parent().Text, s.parent().L[s.index()-1].Text)
		}
		return first(field < 0, api.ErrField, field <= ahead, api.ErrTwice)
	}
	return api.OK
}

func (m model) wrongExpression(s spot, inFunc bool) api.Errno {
	n := s.node()
	unknown := m.kind(n.Text) == 0
	_, isKnown := known(s, n.Text)
	other := isTruth(s) != wantsTruth(s)
	switch n.Op {
	case syntax.Name:
		return first(other, api.ErrType, !isKnown, api.ErrName)
	case syntax.Field:
		return first(other, api.ErrType, inFunc, api.ErrRead, unknown, api.ErrName, !inFunc && !declares(s.member(), n.Text, 2, 3), api.ErrRead)
	case syntax.Has:
		return first(other, api.ErrType, inFunc, api.ErrState, unknown, api.ErrName)
	case syntax.Call:
		params, ok := map[string]int{"rand": 1, "input": 2, "min": 2, "max": 2, "abs": 1}[n.Text]
		if f, _ := m.function(n.Text); f != nil {
			params, ok = len(f.L[0].L), true
		}
		return first(other, api.ErrType, !ok, api.ErrName, len(n.L) != params, api.ErrCall)
	}
	return first(other, api.ErrType)
}

// first gives the error behind the first true.
func first(list ...any) api.Errno {
	for i := 0; i < len(list); i += 2 {
		if list[i].(bool) {
			return list[i+1].(api.Errno)
		}
	}
	return api.OK
}

// heads gives the first fault of the heads.
func (m model) heads() *api.Fault {
	for i, n := range m.tree.L {
		for _, x := range m.tree.L[:i] {
			if x.Op == n.Op && x.Text == n.Text {
				return &api.Fault{At: n.At, Err: api.ErrTwice}
			}
		}
		had := map[string]bool{}
		for _, clause := range n.L[:len(n.L)-1] {
			for _, name := range clause.L {
				if n.Op == syntax.System && m.kind(name.Text) == 0 {
					return &api.Fault{At: name.At, Err: api.ErrName}
				}
				if had[name.Text] {
					return &api.Fault{At: name.At, Err: api.ErrTwice}
				}
				had[name.Text] = true
			}
		}
	}
	return nil
}

func (m model) blocks() *api.Fault {
	for i, n := range m.tree.L {
		top := spot{path: []*node{m.tree}}.child(i)
		for _, s := range top.child(len(n.L) - 1).spots() {
			if e := m.wrong(s); e != api.OK {
				return &api.Fault{At: s.node().At, Err: e}
			}
		}
	}
	return nil
}

// rounds looks from each function for a way back to it.
func (m model) rounds() *api.Fault {
	for _, f := range m.tree.L {
		if f.Op != syntax.Func {
			continue
		}
		seen, work := map[*node]bool{}, []*node{f}
		for len(work) > 0 {
			each(work[0], func(n *node) {
				if g, _ := m.function(n.Text); n.Op == syntax.Call && g != nil && !seen[g] {
					seen[g] = true
					work = append(work, g)
				}
			})
			work = work[1:]
		}
		if seen[f] {
			return &api.Fault{At: f.At, Err: api.ErrLoop}
		}
	}
	return nil
}

// number is what Num must be of a node in the checked tree.
func (m model) number(s spot) int {
	n := s.node()
	if len(s.path) == 1 {
		return 0
	}
	switch n.Op {
	case syntax.System, syntax.Func:
		return slot(n, nil)
	case syntax.Let, syntax.Repeat:
		return slot(s.member(), n)
	case syntax.SetField, syntax.Field, syntax.Part, syntax.Remove, syntax.Has:
		return m.kind(n.Text)
	case syntax.Value:
		return m.field(s.parent().Text, n.Text)
	case syntax.Call:
		_, number := m.function(n.Text)
		if slices.Contains([]string{"rand", "input", "min", "max", "abs"}, n.Text) {
			return 0
		}
		return number
	case syntax.Name:
		switch {
		case s.parent().Op == syntax.Clause && s.member().Op == syntax.System:
			return m.kind(n.Text)
		case s.parent().Op == syntax.Clause:
			return s.index()
		case !isExpression(s):
			return m.field(s.parent().Text, n.Text)
		}
		fallthrough
	case syntax.Set:
		number, _ := known(s, n.Text)
		return number
	}
	return 0
}

// fault is what Check must answer, or nil.
func (m model) fault() *api.Fault {
	if !mayBe(m.kinds) {
		return &api.Fault{At: 0, Err: api.ErrKinds}
	}
	for _, look := range []func() *api.Fault{m.heads, m.blocks, m.rounds} {
		if fault := look(); fault != nil {
			return fault
		}
	}
	return nil
}

// checked is the checked tree.
func (m model) checked(s spot) *node {
	n := s.node()
	own := &node{Op: n.Op, Text: n.Text, At: n.At, Num: int64(m.number(s))}
	if n.Op == syntax.Number {
		own.Num = n.Num
	}
	for i := range n.L {
		own.L = append(own.L, m.checked(s.child(i)))
	}
	return own
}

// systems are what Systems must tell, by the names in the source.
func (m model) systems() (systems []api.System, funcs []api.Routine) {
	for _, n := range m.tree.L {
		run := api.Routine{Name: n.Text, Locals: slot(n, nil)}
		if n.Op == syntax.Func {
			run.Params = len(n.L[0].L)
			funcs = append(funcs, run)
			continue
		}
		sets := [4][]int{}
		for i := range sets {
			for k := range m.kinds {
				if declares(n, m.kinds[k].Name, i) {
					sets[i] = append(sets[i], k+1)
				}
			}
		}
		systems = append(systems, api.System{With: sets[0], Without: sets[1], Reads: sets[2], Writes: sets[3], Run: run})
	}
	return systems, funcs
}

// compare holds Check against the model, and tells whether a source was taken.
func compare(t testing.TB, src string, list []api.Kind) (taken bool) {
	t.Helper()
	n, err := syntax.Parse(src)
	if err != nil {
		return false
	}
	ahead := show(n)
	m := model{list, n}
	want := m.fault()
	c, err := check.Check(n, list)
	if show(n) != ahead {
		t.Fatalf("P3: Check has changed the tree of %s", src)
	}
	if want != nil {
		var got *api.Fault
		if !errors.As(err, &got) || *got != *want || c != nil {
			t.Fatalf("C1: %s\n(kinds %v): %v, want %v", src, list, err, want)
		}
		return false
	}
	if err != nil || c == nil {
		t.Fatalf("C1: %s\n(kinds %v): %v, want a program", src, list, err)
	}
	if got, want := show(c.Tree()), show(m.checked(spot{path: []*node{n}})); got != want {
		t.Fatalf("C2: %s\n(kinds %v): %s\nwant %s", src, list, got, want)
	}
	systems, funcs := m.systems()
	if got, want := fmt.Sprint(c.Systems(), c.Funcs(), c.Kinds()), fmt.Sprint(systems, funcs, list); got != want {
		t.Fatalf("C3: %s\n(kinds %v): %s\nwant %s", src, list, got, want)
	}
	return true
}

// TestModelAtHand: the tests' own sources, against the model.
func TestModelAtHand(t *testing.T) {
	compare(t, "", kinds())
	if !compare(t, whole, kinds()) {
		t.Fatalf("C1: the whole source is not taken")
	}
	compare(t, whole, kinds()[:3])
	compare(t, whole, nil)
}

// TestEveryExpression: C1 and C2, all small expressions, in each place that wants one.
func TestEveryExpression(t *testing.T) {
	leaves := []string{"1", "a", "z", "Pos.x", "Pos.q", "Vel.x", "Mark.x", "Nix.x", "has(Vel)", "has(Nix)", "tick", "rand(1)", "min(1)", "f(1)", "f()", "n(1)", "1 < 2"}
	var list []string
	for _, a := range leaves {
		list = append(list, a, "-("+a+")", "!("+a+")", "abs("+a+")", "f("+a+")", "min(1, "+a+")")
		for _, b := range leaves {
			for _, sign := range []string{"+", "%", "==", "<=", "&&", "||"} {
				list = append(list, "("+a+") "+sign+" ("+b+")")
			}
			list = append(list, "max("+a+", "+b+")")
			for _, c := range leaves {
				list = append(list, "("+a+") ? "+b+" : "+c)
			}
		}
	}
	places := []string{
		"system M reads Pos { let a = 1; let b = %s; b = a; } func f(a) { }",
		"func f(a) { return a; } system M with Vel writes Pos, Mark { let a = 1; if %s { a = 1; } }",
		"func g() { let a = 1; repeat %s { a = 1; } } func f(a) { }",
		"func f(a) { while %s { a = 1; } }",
		"system M writes Pos { let b = 1; Pos.y = %s; } func f(a) { }",
		"system M reads Mark { let a = 2; spawn Vel{x: 1, y: %s}, Pos{x: a}; emit 1, z; } func f(b) { }",
		"func g(a, b) { } func f(a) { return g(1, %s); }",
	}
	taken := 0
	for _, place := range places {
		for _, e := range list {
			if compare(t, fmt.Sprintf(place, e), kinds()) {
				taken++
			}
		}
	}
	if taken < 500 {
		t.Fatalf("the test's own sources: only %d are taken", taken)
	}
}

// TestEveryPair: C1 and C2, all pairs of small statements, one behind the other and one within the other, in systems and in functions.
func TestEveryPair(t *testing.T) {
	list := []string{
		"let a = 1;", "let a = a;", "let b = a;", "let p = 1;", "a = 1;", "b = a;", "p = 2;", "a = 1 < 2;", "Pos.x = 1;", "Pos.q = 1;", "Vel.x = a;", "Vel.y = a;", "Mark.x = 1;", "Nix.x = 1;",
		"if a < 1 { %s }", "if 1 < 2 { let a = 1; } else { %s }", "if 1 < 2 { %s } else if 1 { }", "while 1 < 2 { %s }", "while a { %s }", "repeat 1 { %s }", "repeat b { %s }", "repeat 1 < 2 { %s }",
		"emit a, 1;", "emit 1, Pos.x;", "emit Vel.x, Box.a;", "spawn;", "spawn Pos{x: a}, Pos{};", "spawn Pos{x: 1, y: 2}, Mark{};", "spawn Pos{y: 1, x: 2};", "spawn Nix{};", "add Pos{y: 1, y: 2};", "add Box{a: a, x: b};", "add Mark{x: 1};", "add Nix{};",
		"remove Pos;", "remove Nix;", "die;", "stop;", "return a;", "return 1;", "return g(1);", "a = f();", "emit f(), g(2);",
	}
	heads := []string{
		"func f() { return 3; } func g(q) { return q; } system S reads Vel writes Pos { %s }",
		"func f() { return 3; } func g(p) { let c = 1; %s }",
		"func g(p) { return p; } func f() { let a = g(1); %s }",
	}
	taken := 0
	for _, head := range heads {
		for _, one := range list {
			for _, two := range list {
				two = strings.ReplaceAll(two, "%s", "a = 2;")
				bodies := []string{strings.ReplaceAll(one, "%s", "let a = 3;") + " " + two}
				if strings.Contains(one, "%s") {
					bodies = append(bodies, strings.ReplaceAll(one, "%s", two), "let a = 1; "+strings.ReplaceAll(one, "%s", two)+" a = 2;")
				}
				for _, body := range bodies {
					if compare(t, strings.ReplaceAll(head, "%s", body), kinds()) {
						taken++
					}
				}
			}
		}
	}
	if taken < 300 {
		t.Fatalf("the test's own sources: only %d are taken", taken)
	}
}

// TestGrown: C1 to C3, programs that are grown, mostly right, and then spoilt.
func TestGrown(t *testing.T) {
	taken, refused := 0, map[api.Errno]int{}
	for seed := range 2000 {
		r := rand.New(rand.NewSource(int64(seed)))
		src, list := grow(r, []int{0, 0, 300, 60}[seed%4])
		if compare(t, src, list) {
			taken++
		} else if seed%4 < 2 {
			t.Fatalf("the test's own source is refused: %s\n%v", src, list)
		}
		for range 3 {
			spoilt := spoil(r, src)
			if n, err := syntax.Parse(spoilt); err == nil {
				if fault := (model{list, n}).fault(); fault != nil {
					refused[fault.Err]++
				}
			}
			compare(t, spoilt, list)
		}
	}
	if taken < 1000 {
		t.Errorf("the test's own sources: only %d are taken", taken)
	}
	for _, e := range []api.Errno{api.ErrName, api.ErrTwice, api.ErrWrite, api.ErrRead, api.ErrCall, api.ErrType, api.ErrState, api.ErrField} {
		if refused[e] < 5 {
			t.Errorf("the test's own sources: only %d are refused with %d", refused[e], e)
		}
	}
}

// TestWebs: C1, functions that call one another in any way.
func TestWebs(t *testing.T) {
	taken, first := 0, map[int]int{}
	for seed := range 3000 {
		r := rand.New(rand.NewSource(int64(seed)))
		size := 1 + r.Intn(api.MaxFuncs)
		order := r.Perm(size) // without a slip each calls only those that stand ahead of it here
		slips := r.Intn(3)
		src := ""
		for _, i := range r.Perm(size) {
			calls := "1"
			for k := range size {
				if order[k] < order[i] && r.Intn(size) < 3 || r.Intn(size*size) < slips {
					calls += fmt.Sprintf(" + f%d()", k)
				}
			}
			src += fmt.Sprintf("func f%d() { let a = %s; return a; } ", i, calls)
		}
		if compare(t, src, kinds()) {
			taken++
		} else {
			first[model{kinds(), parse(t, src)}.rounds().At]++
		}
	}
	if taken < 500 || len(first) < 20 {
		t.Errorf("the test's own sources: %d are taken, the others refused at %d places", taken, len(first))
	}
}

// rename gives every variable, parameter and function another name, each its own.
func rename(n *node, names map[string]string) {
	isField := map[*node]bool{}
	each(n, func(x *node) {
		switch {
		case x.Op == syntax.Field, x.Op == syntax.SetField:
			isField[x.L[0]] = true
		case x.Op == syntax.System:
			for _, clause := range x.L[:4] {
				for _, name := range clause.L {
					isField[name] = true
				}
			}
		}
		isOwn := slices.Contains([]int{syntax.Let, syntax.Set, syntax.Func, syntax.Call, syntax.Name}, x.Op)
		if !isOwn || isField[x] || x.Op == syntax.Call && slices.Contains(lex.Words(), x.Text) {
			return
		}
		if names[x.Text] == "" {
			names[x.Text] = fmt.Sprint([]string{"n", "Pos", "x"}[len(names)%3], len(names))
		}
		x.Text = names[x.Text]
	})
}

// TestOtherNames: 'What follows', what is taken is taken with other names of variables, parameters and functions, with the same numbers.
func TestOtherNames(t *testing.T) {
	for seed := range 300 {
		src, list := grow(rand.New(rand.NewSource(int64(seed))), 0)
		one, err := check.Check(parse(t, src), list)
		if err != nil {
			t.Fatalf("C1: %s: %v", src, err)
		}
		n := parse(t, src)
		rename(n, map[string]string{})
		other := parse(t, syntax.Print(n))
		two, err := check.Check(other, list)
		if err != nil {
			t.Fatalf("C1: %s\nwith other names: %v", src, err)
		}
		var nums [2][]int64
		for i, c := range []*check.Checked{one, two} {
			each(c.Tree(), func(x *node) { nums[i] = append(nums[i], x.Num) })
		}
		if !slices.Equal(nums[0], nums[1]) {
			t.Fatalf("C2: %s\nwith other names has other numbers", src)
		}
	}
}

// TestWithoutReadsAndWrites: 'What follows', a system that sees nothing has no Field and no SetField.
func TestWithoutReadsAndWrites(t *testing.T) {
	seen := 0
	for seed := range 500 {
		src, list := grow(rand.New(rand.NewSource(int64(seed))), 100)
		c, err := check.Check(parse(t, src), list)
		if err != nil {
			continue
		}
		systems := c.Systems()
		for _, n := range c.Tree().L {
			if n.Op != syntax.System {
				continue
			}
			fields := 0
			each(n, func(x *node) {
				if x.Op == syntax.Field || x.Op == syntax.SetField {
					fields++
				}
			})
			if len(systems[0].Reads)+len(systems[0].Writes) == 0 && fields > 0 {
				t.Fatalf("C1: %s: %s sees nothing and has a field", src, n.Text)
			}
			systems = systems[1:]
			seen += fields
		}
	}
	if seen < 50 {
		t.Errorf("the test's own sources: only %d fields", seen)
	}
}

// FuzzCheck: P1 and C1 to C3, any source.
func FuzzCheck(f *testing.F) {
	f.Add(whole, uint8(4))
	for seed := range 40 {
		src, _ := grow(rand.New(rand.NewSource(int64(seed))), 50)
		f.Add(src, uint8(seed))
	}
	f.Fuzz(func(t *testing.T, src string, which uint8) {
		all := append(kinds(), manyKinds(10)...)
		compare(t, src, all[:which%15])
	})
}
