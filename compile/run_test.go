package compile_test

import (
	"fmt"
	"slices"
	"testing"

	"hindcast/api"
	"hindcast/check"
	"hindcast/code"
	"hindcast/dice"
	"hindcast/machine"
	"hindcast/walk"
)

// doing does the instructions of a program that compile made, as chapter 13 says what each does: so it asks for little, and gives up by a panic.
type doing struct {
	p      api.Program
	system int
	e      api.Env
	row    map[int64][]int64
	dice   *dice.Dice
	parts  []api.Part
	o      api.Outcome
}

// runCode lets a system's code run.
func runCode(p api.Program, system int, e api.Env) (o api.Outcome) {
	d := &doing{p: p, system: system, e: e, row: map[int64][]int64{}, dice: dice.New(e.Seed, e.Frame, system, e.Row.E.Index)}
	for _, part := range slices.Backward(e.Row.Parts) { // so the first one is put last
		d.row[int64(part.Kind)] = slices.Clone(part.Values)
	}
	defer func() {
		switch why := recover().(type) {
		case nil:
		case api.Errno:
			o = api.Outcome{Steps: d.o.Steps, Err: why}
		default:
			panic(why)
		}
	}()
	d.routine(p.Systems[system].Run, nil)
	for kind := range 13 {
		if values, has := d.row[int64(kind)]; has && slices.Contains(p.Systems[system].Writes, kind) {
			d.o.Values = append(d.o.Values, api.Part{Kind: kind, Values: values})
		}
	}
	return d.o
}

func (d *doing) step() {
	d.o.Steps++
	if d.o.Steps > api.MaxFuel {
		panic(api.ErrFuel)
	}
}

func (d *doing) command(c api.Command) {
	if len(d.o.Commands) == api.MaxOut {
		panic(api.ErrLong)
	}
	d.o.Commands = append(d.o.Commands, c)
}

// place is where the value of a field stands.
func (d *doing) place(a int64) *int64 {
	values := d.row[a/8]
	if a%8 >= int64(len(values)) {
		panic(api.ErrAccess)
	}
	return &values[a%8]
}

// routine does a routine's code to its end, and gives its answer.
func (d *doing) routine(r api.Routine, arguments []int64) int64 {
	locals := append(slices.Clone(arguments), make([]int64, r.Locals-len(arguments))...)
	var stack []int64
	for next := 0; ; {
		i := r.Code[next]
		takes, puts := code.Effect(i, d.p.Funcs)
		x := slices.Clone(stack[len(stack)-takes:])
		stack = stack[:len(stack)-takes]
		next++
		answer := int64(0)
		switch i.Op {
		case code.Load:
			answer = locals[i.A]
		case code.Store:
			locals[i.A] = x[0]
		case code.Jump:
			next = int(i.A)
		case code.Zero:
			if x[0] == 0 {
				next = int(i.A)
			}
		case code.Call:
			d.step()
			answer = d.routine(d.p.Funcs[i.A], x)
		case code.Ret:
			return x[0]
		case code.Stop:
			return 0
		default:
			answer = d.plain(i, x)
		}
		if puts == 1 {
			stack = append(stack, answer)
		}
		if len(stack) > api.MaxStack {
			panic("the stack is too high")
		}
	}
}

// plain does what needs neither locals nor ways.
func (d *doing) plain(i api.Instr, x []int64) int64 {
	who := d.e.Row.E
	switch i.Op {
	case code.Push:
		return i.A
	case code.Step:
		d.step()
	case code.Field:
		return *d.place(i.A)
	case code.Put:
		*d.place(i.A) = x[0]
	case code.Emit:
		if len(d.o.Events) == api.MaxOut {
			panic(api.ErrLong)
		}
		d.o.Events = append(d.o.Events, api.Event{System: d.system, E: who, Code: x[0], Value: x[1]})
	case code.Part:
		d.parts = append(d.parts, api.Part{Kind: int(i.A / 8), Values: x})
	case code.Spawn:
		slices.SortStableFunc(d.parts, func(a, b api.Part) int { return a.Kind - b.Kind })
		d.command(api.Command{Op: api.OpSpawn, Parts: d.parts})
		d.parts = nil
	case code.Give:
		d.command(api.Command{Op: api.OpAdd, E: who, Kind: int(i.A / 8), Values: x})
	case code.Take:
		d.command(api.Command{Op: api.OpRemove, E: who, Kind: int(i.A)})
	case code.Die:
		d.command(api.Command{Op: api.OpDespawn, E: who})
	case code.Rand:
		return d.dice.Below(x[0])
	case code.Tick:
		return int64(d.e.Frame)
	case code.Me:
		return int64(who.Index)
	case code.Has:
		_, has := d.row[i.A]
		return map[bool]int64{true: 1}[has]
	case code.Input:
		for _, in := range slices.Backward(d.e.Inputs) {
			if int64(in.Player) == x[0] && int64(in.Key) == x[1] {
				return in.Value
			}
		}
	default:
		return reckoned(i.Op, x)
	}
	return 0
}

func reckoned(op int, x []int64) int64 {
	x = append(x, 0) // of one number: the other one does not matter
	w, y := x[0], x[1]
	truth := map[int]bool{code.Eq: w == y, code.Ne: w != y, code.Lt: w < y, code.Le: w <= y, code.Gt: w > y, code.Ge: w >= y, code.Not: w == 0}
	if is, ok := truth[op]; ok {
		return map[bool]int64{true: 1}[is]
	}
	if y == 0 && (op == code.Div || op == code.Rem) {
		return 0
	}
	switch op {
	case code.Add:
		return w + y
	case code.Sub:
		return w - y
	case code.Mul:
		return w * y
	case code.Div:
		return w / y
	case code.Rem:
		return w % y
	case code.Neg:
		return -w
	case code.Min:
		return min(w, y)
	case code.Max:
		return max(w, y)
	case code.Abs:
		return max(w, -w)
	}
	panic(fmt.Sprint("compile makes no ", code.Name(op)))
}

// outcome writes an outcome; lists of nothing are alike.
func outcome(o api.Outcome) string {
	return fmt.Sprintf("values %v commands %v events %v steps %d error %d", o.Values, o.Commands, o.Events, o.Steps, o.Err)
}

// wantSameRuns: 'What follows' (P6), the code does what the tree does: by the instructions' own words, and by the machine.
func wantSameRuns(t testing.TB, src string, c *check.Checked, p api.Program, e api.Env) {
	t.Helper()
	for system := range p.Systems {
		want := outcome(walk.Run(c, system, e))
		for what, got := range map[string]string{"words": outcome(runCode(p, system, e)), "machine": outcome(machine.Run(p, system, e))} {
			if got != want {
				t.Fatalf("P6: system %d of %.3000s\nfor %v\nby code (%s) %s\nby tree %s", system, src, e, what, got, want)
			}
		}
	}
}

// TestRuns: P6, some programs by hand, for entities that have all of it, or not.
func TestRuns(t *testing.T) {
	full := api.Env{Frame: 2, Seed: 3, Inputs: []api.Input{{Player: 1, Key: 2, Value: 40}}, Row: api.Row{E: api.Entity{Index: 8, Gen: 2}, Parts: []api.Part{
		{Kind: 1, Values: []int64{7}}, {Kind: 2, Values: []int64{2}}, {Kind: 4, Values: []int64{1, 2, 3, 4}}, {Kind: 5, Values: []int64{5, 6}},
	}}}
	some := full
	some.Row.Parts = full.Row.Parts[:2]
	for _, src := range []string{
		busy,
		"system M { while 1 == 1 { } }", "system M { repeat 17 { emit 0, 0; } }", "system M { repeat 0 - 1 { die; } }", "system M { repeat 1999 { } }", "system M { repeat 2000 { } }",
		"system M writes Pos { repeat 3 { Pos.x = Pos.x * -3; } spawn Pair{b: Pos.x}, Pos{}; stop; die; }",
		"func f(a) { return a * 2; } system M { if f(1) == 2 || f(2) == 0 { } }",
		"func f(a) { if a > 0 { return a; } } func g(a) { while a < 9 { a = a + f(a) + 1; if a == 8 { return 3; } } } system M { emit g(0), g(1); emit f(0), f(5); }",
		"system M writes Pos { Pos.x = 9223372036854775807 + 1; emit Pos.x / -1, Pos.x % -1; emit abs(Pos.x), -Pos.x; emit 1 / 0, 1 % 0; }",
	} {
		for _, e := range []api.Env{full, some, {}} {
			if code, ok := compare(t, src, kinds(), []api.Env{e}); !ok || code != api.OK {
				t.Errorf("the test's own source %s: error %d", src, code)
			}
		}
	}
}
