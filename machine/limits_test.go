package machine_test

import (
	"fmt"
	"math"
	"slices"
	"strings"
	"testing"

	"hindcast/api"
	"hindcast/code"
	"hindcast/machine"
)

// TestLongestRun: every run ends: the most instructions that there may be, 40000 behind each step.
func TestLongestRun(t *testing.T) {
	turn := "load 0; push 1; add; store 0; load 0; push 4443; lt; zero 0; jump 3"
	text := "step; push 0; store 0;" + turn // 2 and 4443 times 9, less one, or a little more
	want(t, text, "fuel 2001")
	want(t, strings.ReplaceAll(text, "4443", "4445"), "end 1")
	o := machine.Run(program("step; push 0; store 1; push 100; call 0; drop; jump 0", "1 1: load 0; zero 8; step; load 0; push 1; sub; store 0; jump 0; push 1; ret"), 1, env())
	if told(o) != "fuel 2001" {
		t.Errorf("K1: a run of calls that have rounds: %s", told(o))
	}
}

// TestLongCode: K1, a routine may be of any length, and so may the list of functions.
func TestLongCode(t *testing.T) {
	list := []api.Instr{{Op: code.Jump, A: 1 << 20}}
	list = append(list, make([]api.Instr, 1<<20-1)...)
	list = append(list, instrs("push 77; put 8; call 99999; put 9; stop")...)
	p := program("")
	p.Systems[1].Run.Code = list
	p.Funcs = make([]api.Routine, 100000)
	p.Funcs[99999] = function("0 0: tick; ret")
	if got := told(machine.Run(p, 1, env())); got != "1; is 1:77,9" {
		t.Errorf("K1: a long routine: %s", got)
	}
	p.Systems = append(p.Systems, make([]api.System, 1000)...)
	p.Systems[700] = api.System{Run: api.Routine{Code: instrs("push 1; push 2; emit; stop")}}
	if got := told(machine.Run(p, 700, env())); got != "0; event 700 5.2 1 2" {
		t.Errorf("K1: one of many systems: %s", got)
	}
}

// TestLongRows: P1, rows, inputs and sets of any length; no instruction looks through all of them anew.
func TestLongRows(t *testing.T) {
	const many = 200000
	e := env()
	e.Row.Parts = []api.Part{{Kind: 5, Values: make([]int64, many)}}
	s := api.System{Run: api.Routine{Locals: 2}}
	for i := range many {
		e.Row.Parts = append(e.Row.Parts, api.Part{Kind: i - 1000, Values: []int64{int64(i)}})
		e.Inputs = append(e.Inputs, api.Input{Player: i % 300, Key: i % 7, Value: int64(i)})
		s.Reads = append(s.Reads, many-i)
		s.Writes = append(s.Writes, many+4-i)
	}
	s.Writes = append(s.Writes, s.Writes...)
	var last int64
	for _, input := range e.Inputs {
		if input.Player == 5 && input.Key == 5 {
			last = input.Value
		}
	}
	s.Run.Code = instrs("step; push 5; push 5; input; put 41; field 8; field 41; emit; push 3000; store 0;" + // 41: of the kind 5 the second value
		"load 0; push 1; sub; store 0; push 5; push 5; input; drop; load 0; zero 21; jump 10; stop")
	o := machine.Run(api.Program{Systems: []api.System{s}}, 0, e)
	if o.Err != api.OK || o.Steps != 1 || len(o.Events) != 1 || o.Events[0].Code != 1001 || o.Events[0].Value != last {
		t.Fatalf("K1: a long row: error %d, %d steps, events %v", o.Err, o.Steps, o.Events)
	}
	kinds := make([]int, len(o.Values))
	for i, part := range o.Values {
		kinds[i] = part.Kind
		if part.Kind == 5 && (len(part.Values) != many || part.Values[1] != last || part.Values[2] != 0) {
			t.Fatalf("K1: a long part has %d values", len(part.Values))
		}
		if part.Kind != 5 && !slices.Equal(part.Values, []int64{int64(part.Kind + 1000)}) {
			t.Fatalf("K1: the kind %d is %v", part.Kind, part.Values)
		}
	}
	if len(kinds) != many-1000-5 || kinds[0] != 5 || !slices.IsSorted(kinds) || len(slices.Compact(kinds)) != len(o.Values) {
		t.Errorf("K1: Values of a long row: %d of them, from %d on", len(kinds), kinds[0])
	}
	s.Run.Code = instrs("step; push 5; push 5; input; drop; field 8; drop; push 1; put 40; jump 0")
	if got := told(machine.Run(api.Program{Systems: []api.System{s}}, 0, e)); got != "fuel 2001" {
		t.Errorf("K1: a long row, asked again and again: %s", got)
	}
}

// TestManyLocals: K1, thirty-two locals, each by itself.
func TestManyLocals(t *testing.T) {
	text, sum := "", "push 0;"
	for i := range 32 {
		text += fmt.Sprintf("push %d; store %d;", 1<<i, i)
		sum += fmt.Sprintf("load %d; add;", i)
	}
	p := program(text + "push 5; call 0; drop; push 0; store 3;" + sum + "put 8; stop")
	p.Systems[1].Run.Locals = 32
	p.Funcs = []api.Routine{{Params: 1, Locals: 32, Code: instrs(text + sum + "ret")}}
	if got, want := told(machine.Run(p, 1, env())), fmt.Sprintf("1; is 1:%d,8", int64(1)<<32-1-8); got != want {
		t.Errorf("K1: thirty-two locals: %s, want %s", got, want)
	}
}

// TestFarNumbers: P1, frames, seeds, entities and inputs of all numbers there are.
func TestFarNumbers(t *testing.T) {
	p := program("tick; me; emit; push 9223372036854775807; push -9223372036854775808; input; push 5; rand; drop; me; emit; stop")
	for _, n := range []int{math.MinInt, math.MaxInt, -1} {
		e := api.Env{Frame: n, Seed: int64(n), System: n, Row: api.Row{E: api.Entity{Index: n, Gen: n}}, Inputs: []api.Input{{Player: math.MaxInt, Key: math.MinInt, Value: 6}, {Player: n, Key: n, Value: 7}}}
		if got, want := told(machine.Run(p, 1, e)), fmt.Sprintf("0; event 1 %d.%[1]d %[1]d %[1]d; event 1 %[1]d.%[1]d 6 %[1]d", n); got != want {
			t.Errorf("K1: far numbers: %s, want %s", got, want)
		}
	}
}
