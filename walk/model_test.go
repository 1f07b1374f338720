package walk_test

import (
	"fmt"
	"math"
	"math/big"
	"math/rand"
	"slices"
	"strings"
	"testing"

	"hindcast/api"
	"hindcast/check"
	"hindcast/dice"
	"hindcast/syntax"
	"hindcast/walk"
)

type node = syntax.Node

// model is the chapter's words, done by names on the tree that Parse made, in numbers without an end that are cut to 64 bits. It knows nothing of slots, and gives nothing up by a panic: whether a thing goes on is handed back, step by step.
type model struct {
	tree   *node
	kinds  []api.Kind
	system int
	e      api.Env
	row    map[string][]*big.Int // the values of the parts that count, by the kinds' names
	dice   *dice.Dice
	o      api.Outcome
}

// doing is a system or a call: its variables by their names, and what a return gave.
type doing struct {
	*model
	vars   map[string]*big.Int
	answer *big.Int
}

func wrapped(x *big.Int) *big.Int {
	width := new(big.Int).Lsh(big.NewInt(1), 64)
	x = new(big.Int).Mod(x, width)
	if !x.IsInt64() {
		x.Sub(x, width)
	}
	return x
}

func members(tree *node, op int) []*node {
	return slices.DeleteFunc(slices.Clone(tree.L), func(n *node) bool { return n.Op != op })
}

// modelRun is walk.Run, by the model.
func modelRun(tree *node, kinds []api.Kind, system int, e api.Env) api.Outcome {
	all := members(tree, syntax.System)
	if system < 0 || system >= len(all) {
		return api.Outcome{Err: api.ErrSystem}
	}
	m := &model{tree: tree, kinds: kinds, system: system, e: e, row: map[string][]*big.Int{}}
	m.dice = dice.New(e.Seed, e.Frame, system, e.Row.E.Index)
	for i := len(e.Row.Parts) - 1; i >= 0; i-- { // so the first one is put last
		part := e.Row.Parts[i]
		if part.Kind < 1 || part.Kind > len(kinds) {
			continue
		}
		values := []*big.Int{}
		for _, value := range part.Values {
			values = append(values, big.NewInt(value))
		}
		m.row[kinds[part.Kind-1].Name] = values
	}
	own := all[system]
	m.begin(nil, nil).block(own.L[4])
	if m.o.Err != api.OK {
		return api.Outcome{Steps: m.o.Steps, Err: m.o.Err}
	}
	for i, kind := range kinds {
		isWritten := slices.ContainsFunc(own.L[3].L, func(n *node) bool { return n.Text == kind.Name })
		if values, has := m.row[kind.Name]; has && isWritten {
			m.o.Values = append(m.o.Values, api.Part{Kind: i + 1, Values: small(values)})
		}
	}
	return m.o
}

func small(list []*big.Int) []int64 {
	var all []int64
	for _, x := range list {
		all = append(all, x.Int64())
	}
	return all
}

func (m *model) begin(params []*node, arguments []*big.Int) *doing {
	d := &doing{model: m, vars: map[string]*big.Int{}, answer: new(big.Int)}
	for i, param := range params {
		d.vars[param.Text] = arguments[i]
	}
	return d
}

// cut tells that the run does not go on.
func (m *model) cut(reason api.Errno) bool {
	m.o.Err = reason
	return false
}

func (m *model) step() bool {
	m.o.Steps++
	if m.o.Steps > api.MaxFuel {
		return m.cut(api.ErrFuel)
	}
	return true
}

func (m *model) kindOf(name string) int {
	return 1 + slices.IndexFunc(m.kinds, func(k api.Kind) bool { return k.Name == name })
}

// place gives where the value of a field stands, or nil.
func (m *model) place(n *node) **big.Int {
	values := m.row[n.Text]
	i := slices.Index(m.kinds[m.kindOf(n.Text)-1].Fields, n.L[0].Text)
	if i >= len(values) {
		m.cut(api.ErrAccess)
		return nil
	}
	return &values[i]
}

func (d *doing) block(n *node) bool {
	for _, statement := range n.L {
		if !d.statement(statement) {
			return false
		}
	}
	return true
}

func (d *doing) statement(n *node) bool {
	if !d.step() {
		return false
	}
	switch n.Op {
	case syntax.Let, syntax.Set, syntax.SetField, syntax.Return, syntax.Repeat:
		x, ok := d.number(n.L[len(n.L)-1-map[int]int{syntax.Repeat: 1}[n.Op]])
		return ok && d.withNumber(n, x)
	case syntax.If:
		truth, ok := d.truth(n.L[0])
		if !ok || truth {
			return ok && d.block(n.L[1])
		}
		if len(n.L) < 3 {
			return true
		}
		return n.L[2].Op == syntax.If && d.statement(n.L[2]) || n.L[2].Op == syntax.Block && d.block(n.L[2])
	case syntax.While:
		for {
			if truth, ok := d.truth(n.L[0]); !ok || !truth {
				return ok
			}
			if !d.step() || !d.block(n.L[1]) {
				return false
			}
		}
	case syntax.Emit:
		code, ok := d.number(n.L[0])
		if !ok {
			return false
		}
		value, ok := d.number(n.L[1])
		if !ok {
			return false
		}
		if len(d.o.Events) >= 16 {
			return d.cut(api.ErrLong)
		}
		d.o.Events = append(d.o.Events, api.Event{System: d.system, E: d.e.Row.E, Code: code.Int64(), Value: value.Int64()})
		return true
	case syntax.Stop:
		return false
	}
	return d.command(n)
}

// withNumber does what is left of a statement, when its number is known.
func (d *doing) withNumber(n *node, x *big.Int) bool {
	switch n.Op {
	case syntax.Let, syntax.Set:
		d.vars[n.Text] = x
	case syntax.SetField:
		place := d.place(n)
		if place == nil {
			return false
		}
		*place = x
	case syntax.Return:
		d.answer = x
		return false
	case syntax.Repeat:
		for i := big.NewInt(1); i.Cmp(x) <= 0; i.Add(i, big.NewInt(1)) {
			if !d.step() || !d.block(n.L[1]) {
				return false
			}
		}
	}
	return true
}

func (d *doing) command(n *node) bool {
	c := api.Command{E: d.e.Row.E}
	switch n.Op {
	case syntax.Spawn, syntax.Add:
		byKind := map[int][]int64{}
		for _, part := range n.L {
			values, ok := d.valuesOf(part)
			if !ok {
				return false
			}
			byKind[d.kindOf(part.Text)] = values
		}
		for kind := range 13 {
			if values, has := byKind[kind]; has {
				c.Parts = append(c.Parts, api.Part{Kind: kind, Values: values})
			}
		}
		if n.Op == syntax.Add {
			c = api.Command{Op: 3, E: c.E, Kind: c.Parts[0].Kind, Values: c.Parts[0].Values}
		} else {
			c.Op, c.E = 1, api.Entity{}
		}
	case syntax.Remove:
		c.Op, c.Kind = 4, d.kindOf(n.Text)
	case syntax.Die:
		c.Op = 2
	}
	if len(d.o.Commands) >= 16 {
		return d.cut(api.ErrLong)
	}
	d.o.Commands = append(d.o.Commands, c)
	return true
}

// valuesOf gives the values of a part, field by field of its kind.
func (d *doing) valuesOf(part *node) ([]int64, bool) {
	var values []int64
	for _, field := range d.kinds[d.kindOf(part.Text)-1].Fields {
		x := new(big.Int)
		for _, given := range part.L {
			if given.Text != field {
				continue
			}
			var ok bool
			if x, ok = d.number(given.L[0]); !ok {
				return nil, false
			}
		}
		values = append(values, x.Int64())
	}
	return values, true
}

// all gives numbers from left to right, as long as it goes on.
func (d *doing) all(list []*node) ([]*big.Int, bool) {
	var numbers []*big.Int
	for _, n := range list {
		x, ok := d.number(n)
		if !ok {
			return nil, false
		}
		numbers = append(numbers, x)
	}
	return numbers, true
}

func (d *doing) number(n *node) (*big.Int, bool) {
	switch n.Op {
	case syntax.Number:
		return big.NewInt(n.Num), true
	case syntax.Name:
		return d.vars[n.Text], true
	case syntax.Word:
		return big.NewInt(int64(map[string]int{"tick": d.e.Frame, "me": d.e.Row.E.Index}[n.Text])), true
	case syntax.Field:
		place := d.place(n)
		if place == nil {
			return nil, false
		}
		return *place, true
	case syntax.Cond:
		truth, ok := d.truth(n.L[0])
		if !ok {
			return nil, false
		}
		return d.number(n.L[map[bool]int{true: 1, false: 2}[truth]])
	}
	given, ok := d.all(n.L)
	if !ok {
		return nil, false
	}
	switch n.Op {
	case syntax.Call:
		return d.call(n.Text, given)
	case syntax.Unary:
		return wrapped(new(big.Int).Neg(given[0])), true
	}
	return reckoned(n.Text, given[0], given[1]), true
}

func reckoned(sign string, a, b *big.Int) *big.Int {
	x := new(big.Int)
	switch sign {
	case "+":
		x.Add(a, b)
	case "-":
		x.Sub(a, b)
	case "*":
		x.Mul(a, b)
	case "/":
		if b.Sign() != 0 {
			x.Quo(a, b) // towards 0
		}
	case "%":
		if b.Sign() != 0 {
			x.Rem(a, b)
		}
	}
	return wrapped(x)
}

func (d *doing) call(name string, given []*big.Int) (*big.Int, bool) {
	switch name {
	case "rand":
		return big.NewInt(d.dice.Below(given[0].Int64())), true
	case "input":
		for i := len(d.e.Inputs) - 1; i >= 0; i-- {
			if in := d.e.Inputs[i]; big.NewInt(int64(in.Player)).Cmp(given[0]) == 0 && big.NewInt(int64(in.Key)).Cmp(given[1]) == 0 {
				return big.NewInt(in.Value), true
			}
		}
		return new(big.Int), true
	case "min", "max":
		if (given[0].Cmp(given[1]) < 0) == (name == "min") {
			return given[0], true
		}
		return given[1], true
	case "abs":
		return wrapped(new(big.Int).Abs(given[0])), true
	}
	if !d.step() {
		return nil, false
	}
	for _, f := range members(d.tree, syntax.Func) {
		if f.Text == name {
			within := d.begin(f.L[0].L, given)
			within.block(f.L[1])
			return within.answer, d.o.Err == api.OK
		}
	}
	panic("no such function: " + name)
}

func (d *doing) truth(n *node) (truth, ok bool) {
	switch {
	case n.Op == syntax.Has:
		_, has := d.row[n.Text]
		return has, true
	case n.Op == syntax.Unary:
		truth, ok = d.truth(n.L[0])
		return ok && !truth, ok
	case n.Op == syntax.Cond:
		if truth, ok = d.truth(n.L[0]); !ok {
			return false, false
		}
		return d.truth(n.L[map[bool]int{true: 1, false: 2}[truth]])
	case n.Text == "&&", n.Text == "||":
		if truth, ok = d.truth(n.L[0]); !ok || truth == (n.Text == "||") {
			return truth, ok
		}
		return d.truth(n.L[1])
	}
	both, ok := d.all(n.L)
	if !ok {
		return false, false
	}
	c := both[0].Cmp(both[1])
	return map[string]bool{"==": c == 0, "!=": c != 0, "<": c < 0, "<=": c <= 0, ">": c > 0, ">=": c >= 0}[n.Text], true
}

// compare lets all systems of a source run, by walk and by the model; of a source that means nothing it tells false.
func compare(t testing.TB, src string, list []api.Kind, e api.Env, see func(api.Outcome)) bool {
	n, err := syntax.Parse(src)
	if err != nil {
		return false
	}
	c, err := check.Check(n, list)
	if err != nil {
		return false
	}
	for system := -1; system <= len(c.Systems()); system++ {
		o := walk.Run(c, system, e)
		if got, want := tell(o), tell(modelRun(n, list, system, e)); got != want {
			t.Fatalf("M1 to M4: system %d of %.2000s\nof %v\nfor %v\ngot  %s\nwant %s", system, src, list, e, got, want)
		}
		if o.Err != api.OK && (o.Values != nil || o.Commands != nil || o.Events != nil) {
			t.Fatalf("M1: system %d of %.2000s was cut off, and has done something", system, src)
		}
		if o.Steps > api.MaxFuel+1 || (o.Steps > api.MaxFuel) != (o.Err == api.ErrFuel) {
			t.Fatalf("M1: system %d of %.2000s has %d steps, error %d", system, src, o.Steps, o.Err)
		}
		if see != nil && o.Err != api.ErrSystem {
			see(o)
		}
	}
	return true
}

// rows are entities that have all that the test's own sources ask for, or not.
func rows() []api.Env {
	full := env()
	full.Inputs = []api.Input{{Player: 1, Key: 2, Value: 30}, {Player: 2, Key: 2, Value: 20}, {Player: 1, Key: 2, Value: 3}}
	full.Row.Parts = append(full.Row.Parts, api.Part{Kind: 4, Values: []int64{4, -5, 6, 0}})
	bare, short := full, full
	bare.Row.Parts = full.Row.Parts[:2]
	short.Row.Parts = []api.Part{{Kind: 4, Values: []int64{4}}, {Kind: 2, Values: []int64{2}}, {Kind: 4, Values: []int64{1, 2, 3, 4}}}
	return []api.Env{full, bare, short}
}

const helpers = "func f(a) { if a > 5 { return a - 5; } let b = a + 1; return b; } func g(a, b) { while a < b { a = a + 2; if a == 5 { return -1; } } } "

// TestPairs: M2, all pairs of some statements, in all ways to stand in one another.
func TestPairs(t *testing.T) {
	statements := []string{
		"let a = p + 1;", "p = p * 3;", "p = f(p);", "Pos.x = Pos.x + p;", "Box.b = p;", "if p > 2 { die; }", "if p > 2 { emit 1, p; } else { emit 2, p; }",
		"if p == 1 { } else if p == 2 { p = 9; }", "while p < 4 { p = p + 1; }", "repeat p { emit p, 0; }", "emit p, Pos.x;", "emit rand(100), rand(p);",
		"spawn Box{b: p}, Pos{x: rand(9)};", "add Pos{x: p};", "remove Pos;", "die;", "stop;", "if has(Box) { Box.a = 3; }",
		"while 1 == 1 { p = p + 1; if p > 6 { stop; } }", "repeat 17 { die; }", "let b = g(p, f(1));", "emit input(1, p), min(p, Pos.x);",
		"repeat 3 { repeat 2 { p = p + 1; } }", "while f(p) < 4 { p = p + 1; let c = p; }", "repeat f(p) - 2 { Pos.x = f(Pos.x); }", "while 1 == 1 { }", "p = Box.c;",
	}
	ways := []string{
		"A B", "if p == 2 { A B }", "repeat 2 { A B }", "while p < 5 { A p = p + 1; B }", "if p == 3 { A } else { B }",
		"if p == 3 { } else if p == 2 { A } B", "repeat 1 { A } B", "while p < 3 { A p = p + 1; } B",
	}
	taken, reasons := 0, map[api.Errno]int{}
	for _, way := range ways {
		for _, a := range statements {
			for _, b := range statements {
				src := helpers + "system M writes Pos, Box { let p = 2; " + strings.NewReplacer("A", a, "B", b).Replace(way) + " }"
				for _, e := range rows() {
					if compare(t, src, kinds(), e, func(o api.Outcome) { reasons[o.Err]++ }) {
						taken++
					}
				}
			}
		}
	}
	if taken < 10000 || reasons[api.OK] < 2000 || reasons[api.ErrFuel] < 500 || reasons[api.ErrLong] < 500 || reasons[api.ErrAccess] < 500 {
		t.Errorf("the test's own sources: %d are taken, they end by %v", taken, reasons)
	}
}

// TestPairsInFunctions: M2, the same within a function.
func TestPairsInFunctions(t *testing.T) {
	statements := []string{
		"let a = p + 1;", "p = p * 3;", "p = f(p);", "q = g(p, q);", "if p > 2 { q = 1; }", "if p > 2 { return q; } else { q = 7; }", "if p == 1 { } else if p == 2 { return 9; }",
		"while p < 4 { p = p + 1; }", "repeat p { q = q + p; }", "return p;", "return rand(100);", "q = rand(50);", "while 1 == 1 { p = p + 1; if p > 6 { return p; } }",
		"repeat 5 { q = q + 1; if q > 3 { return -q; } }", "while 1 == 1 { }", "let b = tick + me; q = b;", "return input(p, q);",
	}
	ways := []string{
		"A B", "if p == 2 { A B }", "repeat 2 { A B }", "while p < 5 { A p = p + 1; B }", "if p == 3 { A } else { B }", "repeat 1 { A } B", "A B return p * 1000 + q;",
	}
	taken := 0
	for _, way := range ways {
		for _, a := range statements {
			for _, b := range statements {
				body := strings.NewReplacer("A", a, "B", b).Replace(way)
				if compare(t, helpers+"func h(p, q) { "+body+" } system M { emit h(2, 1), h(3, 2); emit h(h(1, 1), 2), 0; }", kinds(), rows()[0], nil) {
					taken++
				}
			}
		}
	}
	if taken < 1500 {
		t.Errorf("the test's own sources: only %d are taken", taken)
	}
}

// TestSmallExpressions: M3, all small expressions, with what they cost, roll and are cut off by.
func TestSmallExpressions(t *testing.T) {
	leaves := []string{"2", "p", "Pos.x", "Box.b", "f(p)", "rand(9)", "me"}
	truths := []string{"has(Box)", "has(Mark)", "p == 2", "f(1) == 1", "Box.c > 5", "rand(2) == 0"}
	var numbers, more []string
	for _, a := range leaves {
		numbers = append(numbers, a, "-"+a, "abs(-"+a+")", "rand("+a+")", "f("+a+")")
		for _, b := range leaves {
			for _, sign := range []string{" + ", " - ", " * ", " / ", " % "} {
				numbers = append(numbers, a+sign+b)
			}
			numbers = append(numbers, "min("+a+", "+b+")", "max("+a+", "+b+")", "input("+a+", "+b+")", "g("+a+", "+b+")")
			for _, sign := range []string{" == ", " != ", " < ", " <= ", " > ", " >= "} {
				more = append(more, a+sign+b)
			}
			for _, c := range truths {
				numbers = append(numbers, "("+c+" ? "+a+" : "+b+")")
			}
		}
	}
	for _, a := range truths {
		more = append(more, "!("+a+")")
		for _, b := range truths {
			more = append(more, "("+a+") && "+b, "("+a+") || "+b)
			for _, c := range truths {
				more = append(more, "("+a+" ? "+b+" : "+c+")", a+" && "+b+" || "+c, a+" || "+b+" && "+c, "("+a+" || "+b+") && !("+c+")")
			}
		}
	}
	for _, expression := range more {
		numbers = append(numbers, "("+expression+") ? 10 : 20")
	}
	for _, expression := range numbers {
		for _, e := range rows() {
			if !compare(t, helpers+"system M reads Pos, Box { let p = 2; emit "+expression+", rand(1000); }", kinds(), e, nil) {
				t.Fatalf("the test's own expression %s is not taken", expression)
			}
		}
	}
}

// TestEdgesOfNumbers: M3, all signs and calls of all pairs of numbers near the edges.
func TestEdgesOfNumbers(t *testing.T) {
	src := "system M reads Pair { let a = Pair.a; let b = Pair.b; emit a + b, a - b; emit a * b, a / b; emit a % b, -a; emit min(a, b), max(a, b); emit abs(a), input(a, b);" +
		" emit a == b ? 1 : 0, a != b ? 1 : 0; emit a < b ? 1 : 0, a <= b ? 1 : 0; emit a > b ? 1 : 0, a >= b ? 1 : 0; emit rand(a), rand(b); }"
	var edges []int64
	for _, x := range []int64{0, 1 << 31, 1 << 32, math.MaxInt64, math.MinInt64, 3037000500, -3037000500, 1 << 53, 10, -10} {
		edges = append(edges, x-2, x-1, x, x+1, x+2)
	}
	for _, a := range edges {
		for _, b := range edges {
			e := env()
			e.Inputs = []api.Input{{Player: int(a), Key: int(b), Value: a}, {Player: int(b), Key: int(a), Value: b}, {Player: int(int32(a)), Key: int(int32(b)), Value: 5}}
			e.Row.Parts = []api.Part{{Kind: 5, Values: []int64{a, b}}}
			if !compare(t, src, kinds(), e, nil) {
				t.Fatalf("the test's own source is not taken")
			}
		}
	}
}

// TestGrown: M1 to M4, programs that were grown, for entities that were.
func TestGrown(t *testing.T) {
	reasons, told := map[api.Errno]int{}, 0
	for seed := range 6000 {
		r := rand.New(rand.NewSource(int64(seed)))
		src, list := grow(r)
		for range 3 {
			if !compare(t, src, list, someEnv(r, list), func(o api.Outcome) {
				reasons[o.Err]++
				told += len(o.Commands) + len(o.Events)
			}) {
				t.Fatalf("the test's own source is not taken: %s", src)
			}
		}
	}
	if reasons[api.OK] < 10000 || reasons[api.ErrFuel] < 300 || reasons[api.ErrLong] < 300 || reasons[api.ErrAccess] < 300 || told < 10000 {
		t.Errorf("the test's own sources end by %v, and tell %d things", reasons, told)
	}
}

// copiedEnv copies all of an env.
func copiedEnv(e api.Env) api.Env {
	e.Inputs = slices.Clone(e.Inputs)
	e.Row.Parts = slices.Clone(e.Row.Parts)
	for i := range e.Row.Parts {
		e.Row.Parts[i].Values = slices.Clone(e.Row.Parts[i].Values)
	}
	return e
}

// unseen changes all of an env that no run may hang on.
func unseen(r *rand.Rand, e api.Env, s api.System) api.Env {
	e = copiedEnv(e)
	e.System = r.Int()
	var inputs []api.Input
	for i, in := range e.Inputs {
		if !slices.ContainsFunc(e.Inputs[i+1:], func(o api.Input) bool { return o.Player == in.Player && o.Key == in.Key }) {
			inputs = append(inputs, in)
		}
	}
	r.Shuffle(len(inputs), func(i, k int) { inputs[i], inputs[k] = inputs[k], inputs[i] })
	for _, in := range inputs {
		inputs = append([]api.Input{{Player: in.Player, Key: in.Key, Value: r.Int63()}}, inputs...)
	}
	e.Inputs = inputs
	var parts []api.Part
	for i, part := range e.Row.Parts {
		if slices.ContainsFunc(e.Row.Parts[:i], func(o api.Part) bool { return o.Kind == part.Kind }) {
			continue
		}
		if !slices.Contains(s.Reads, part.Kind) && !slices.Contains(s.Writes, part.Kind) {
			part.Values = make([]int64, r.Intn(6))
		}
		parts = append(parts, part)
	}
	r.Shuffle(len(parts), func(i, k int) { parts[i], parts[k] = parts[k], parts[i] })
	for _, part := range slices.Clone(parts) {
		parts = append(parts, api.Part{Kind: part.Kind, Values: []int64{9, 9, 9, 9}})
	}
	e.Row.Parts = parts
	return e
}

// TestWhatARunHangsOn: 'What follows', on the system, the functions, and e alone: of e.Inputs on the last ones, of e.Row on the kinds that it has and the values of those that are seen; not on other systems, and not on how the source is written.
func TestWhatARunHangsOn(t *testing.T) {
	for seed := range 1500 {
		r := rand.New(rand.NewSource(int64(seed)))
		src, list := grow(r)
		c := checkedFor(t, src, list)
		e := someEnv(r, list)
		printed := checkedFor(t, syntax.Print(c.Tree()), list)
		for system, s := range c.Systems() {
			want := tell(walk.Run(c, system, e))
			if got := tell(walk.Run(c, system, unseen(r, e, s))); got != want {
				t.Fatalf("system %d of %s\nhangs on what it may not: %s, want %s", system, src, got, want)
			}
			if got := tell(walk.Run(printed, system, e)); got != want {
				t.Fatalf("P6: system %d of %s\nprinted and read again: %s, want %s", system, src, got, want)
			}
			others := 0
			n, _ := syntax.Parse(src)
			for _, member := range n.L {
				if member.Op == syntax.System {
					if others != system {
						member.L[4].L = nil
					}
					others++
				}
			}
			if got := tell(walk.Run(checkedFor(t, syntax.Print(n), list), system, e)); got != want {
				t.Fatalf("system %d of %s\nhangs on the other systems: %s, want %s", system, src, got, want)
			}
		}
	}
}

// FuzzRun: P1 and M1 to M4, any source, for entities that are grown.
func FuzzRun(f *testing.F) {
	for seed := range 40 {
		src, _ := grow(rand.New(rand.NewSource(int64(seed))))
		f.Add(src, int64(seed))
	}
	for i, body := range []string{"Pos.x = Pos.x + Vel.x; emit me, tick;", "let i = 0; while i < 3 { i = i + 1; }", "repeat 17 { emit 0, 0; }", "spawn Box{b: rand(3)}, Pos{x: Pos.x / 0}; stop;"} {
		f.Add("func f(a) { return a * 2; } system M reads Vel writes Pos { "+body+" }", int64(i))
	}
	f.Fuzz(func(t *testing.T, src string, seed int64) {
		r := rand.New(rand.NewSource(seed))
		for range 2 {
			if !compare(t, src, kinds(), someEnv(r, kinds()), nil) {
				return
			}
		}
		_, list := grow(r)
		compare(t, src, list, someEnv(r, list), nil)
		compare(t, fmt.Sprint(src, " system Last { die; }"), kinds(), someEnv(r, kinds()), nil)
	})
}
