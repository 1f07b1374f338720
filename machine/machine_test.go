package machine_test

import (
	"fmt"
	"math"
	"slices"
	"strconv"
	"strings"
	"testing"

	"hindcast/api"
	"hindcast/code"
	"hindcast/dice"
	"hindcast/machine"
)

// instrs reads instructions, with `;` between them: each a word (or an op's number), and a number A.
func instrs(text string) []api.Instr {
	var list []api.Instr
	for piece := range strings.SplitSeq(text, ";") {
		words := strings.Fields(piece)
		if len(words) == 0 {
			continue
		}
		i := api.Instr{Op: code.Number(words[0])}
		if i.Op == 0 {
			op, err := strconv.Atoi(words[0])
			if err != nil {
				panic("the test's own instruction " + piece)
			}
			i.Op = op
		}
		if len(words) > 1 {
			a, err := strconv.ParseInt(words[1], 10, 64)
			if err != nil || len(words) > 2 {
				panic("the test's own instruction " + piece)
			}
			i.A = a
		}
		list = append(list, i)
	}
	return list
}

// function reads `params locals: instructions`.
func function(text string) api.Routine {
	head, body, _ := strings.Cut(text, ":")
	var r api.Routine
	if _, err := fmt.Sscan(head, &r.Params, &r.Locals); err != nil {
		panic("the test's own function " + text)
	}
	r.Code = instrs(body)
	return r
}

// program has a system 1 that reads the kinds 2 and 6, writes 3 and 1, and has two locals.
func program(text string, funcs ...string) api.Program {
	p := api.Program{Systems: []api.System{{}, {Reads: []int{2, 6}, Writes: []int{3, 1}, Run: api.Routine{Name: "S", Locals: 2, Code: instrs(text)}}, {}}}
	for _, f := range funcs {
		p.Funcs = append(p.Funcs, function(f))
	}
	return p
}

// env is of the entity 5 2 with the kinds 1 (7, 8), 2 (3), 4 (9): it lacks 3 and 6.
func env() api.Env {
	return api.Env{
		Frame: 9, Seed: 4, System: 77,
		Inputs: []api.Input{{Player: 1, Key: 2, Value: 10}, {Player: 1, Key: 2, Value: 11}, {Player: 2, Key: 1, Value: 12}, {Player: -1, Key: -2, Value: 13}},
		Row:    api.Row{E: api.Entity{Index: 5, Gen: 2}, Parts: []api.Part{{Kind: 1, Values: []int64{7, 8}}, {Kind: 2, Values: []int64{3}}, {Kind: 4, Values: []int64{9}}}},
	}
}

var errorWords = map[api.Errno]string{api.ErrJump: "jump", api.ErrEnd: "end", api.ErrAccess: "access", api.ErrStack: "stack", api.ErrLong: "long", api.ErrFuel: "fuel", api.ErrSystem: "system"}

func partTold(p api.Part) string {
	return strconv.Itoa(p.Kind) + ":" + strings.ReplaceAll(strings.Trim(fmt.Sprint(p.Values), "[]"), " ", ",")
}

// told writes an outcome: why and behind how many steps it was cut off, or its steps, and all that it tells.
func told(o api.Outcome) string {
	if o.Err != api.OK {
		if o.Values != nil || o.Commands != nil || o.Events != nil {
			return fmt.Sprintf("cut off, and yet %v", o)
		}
		return fmt.Sprint(errorWords[o.Err], " ", o.Steps)
	}
	words := []string{strconv.Itoa(o.Steps)}
	for _, p := range o.Values {
		words = append(words, "is "+partTold(p))
	}
	for _, c := range o.Commands {
		word := fmt.Sprintf("do %d %d.%d %d:%v", c.Op, c.E.Index, c.E.Gen, c.Kind, strings.Trim(fmt.Sprint(c.Values), "[]"))
		for _, p := range c.Parts {
			word += " (" + partTold(p) + ")"
		}
		words = append(words, word)
	}
	for _, e := range o.Events {
		words = append(words, fmt.Sprintf("event %d %d.%d %d %d", e.System, e.E.Index, e.E.Gen, e.Code, e.Value))
	}
	return strings.Join(words, "; ")
}

// short cuts a long text.
func short(text string) string {
	if len(text) > 300 {
		return text[:300] + " ..."
	}
	return text
}

func want(t *testing.T, text, want string, funcs ...string) {
	t.Helper()
	if got := told(machine.Run(program(text, funcs...), 1, env())); got != want {
		t.Errorf("K1: %s %.200q: %s, want %s", short(text), funcs, got, want)
	}
}

// wantTop wants this number to be the top, behind these instructions.
func wantTop(t *testing.T, text string, top int64, funcs ...string) {
	t.Helper()
	o := machine.Run(program(text+"; put 8; stop", funcs...), 1, env())
	if o.Err != api.OK || len(o.Values) != 1 || !slices.Equal(o.Values[0].Values, []int64{top, 8}) {
		t.Errorf("K1: %s: %s, want %d", text, told(o), top)
	}
}

// TestExamples: K1, the chapter's examples.
func TestExamples(t *testing.T) {
	e := api.Env{Row: api.Row{Parts: []api.Part{{Kind: 1, Values: []int64{7}}}}}
	p := api.Program{Systems: []api.System{{Writes: []int{1}, Run: api.Routine{Code: instrs("step; field 8; push 1; add; put 8; stop")}}}}
	if got := told(machine.Run(p, 0, e)); got != "1; is 1:8" {
		t.Errorf("K1: one more: %s", got)
	}
	want(t, "push 1; jump 0", "stack 0")
	want(t, strings.Repeat("push 1;", 64)+"stop", "0; is 1:7,8")
	want(t, strings.Repeat("push 1;", 65)+"stop", "stack 0")
	want(t, "jump 0", "end 0")
	want(t, "step; jump 0", "fuel 2001")
	want(t, "", "jump 0")
	want(t, "push 1; push 2; emit; stop", "0; is 1:7,8; event 1 5.2 1 2")
}

// TestSystems: K1, the system of this number runs, and no other; of none that there is the outcome is ErrSystem, and else zero.
func TestSystems(t *testing.T) {
	var p api.Program
	for i := range 3 {
		p.Systems = append(p.Systems, api.System{Run: api.Routine{Code: instrs(fmt.Sprintf("push %d; push %d; emit; stop", i*10, i))}})
	}
	for i := range 3 {
		if got, want := told(machine.Run(p, i, env())), fmt.Sprintf("0; event %d 5.2 %d %d", i, i*10, i); got != want {
			t.Errorf("K1: the system %d: %s, want %s", i, got, want)
		}
	}
	for _, n := range []int{-1, 3, 4, math.MaxInt, math.MinInt} {
		if o := machine.Run(p, n, env()); told(o) != "system 0" {
			t.Errorf("K1: the system %d: %s", n, told(o))
		}
	}
	if got := told(machine.Run(api.Program{}, 0, api.Env{})); got != "system 0" {
		t.Errorf("K1: a system of none: %s", got)
	}
	if got := told(machine.Run(api.Program{Funcs: p.Funcs, Systems: make([]api.System, 1)}, 0, api.Env{})); got != "jump 0" {
		t.Errorf("K1: a zero system: %s", got)
	}
}

// TestReckons: K1, what makes numbers of numbers.
func TestReckons(t *testing.T) {
	const least, most = math.MinInt64, math.MaxInt64
	for _, row := range []struct {
		word       string
		w, x, want int64
	}{
		{"add", 2, 3, 5}, {"add", most, 1, least}, {"add", least, -1, most}, {"sub", 3, 5, -2}, {"sub", least, 1, most}, {"sub", 0, least, least},
		{"mul", -3, 5, -15}, {"mul", most, 2, -2}, {"mul", least, -1, least}, {"mul", 1 << 32, 1 << 32, 0},
		{"div", 7, 2, 3}, {"div", -7, 2, -3}, {"div", 7, -2, -3}, {"div", -7, -2, 3}, {"div", 7, 0, 0}, {"div", 0, 0, 0}, {"div", least, -1, least}, {"div", least, 0, 0}, {"div", 1, 2, 0},
		{"rem", 7, 2, 1}, {"rem", -7, 2, -1}, {"rem", 7, -2, 1}, {"rem", -7, -2, -1}, {"rem", 7, 0, 0}, {"rem", 0, 0, 0}, {"rem", least, -1, 0}, {"rem", least, 0, 0},
		{"eq", 2, 2, 1}, {"eq", 2, 3, 0}, {"ne", 2, 2, 0}, {"ne", 2, 3, 1},
		{"lt", 2, 3, 1}, {"lt", 3, 3, 0}, {"lt", 3, 2, 0}, {"lt", least, most, 1}, {"le", 2, 3, 1}, {"le", 3, 3, 1}, {"le", 3, 2, 0}, {"le", most, least, 0},
		{"gt", 2, 3, 0}, {"gt", 3, 3, 0}, {"gt", 3, 2, 1}, {"gt", most, least, 1}, {"ge", 2, 3, 0}, {"ge", 3, 3, 1}, {"ge", 3, 2, 1}, {"ge", least, most, 0},
		{"min", -1, 2, -1}, {"min", 2, -1, -1}, {"min", least, most, least}, {"max", -1, 2, 2}, {"max", 2, -1, 2}, {"max", least, most, most},
	} {
		wantTop(t, fmt.Sprintf("push 99; push %d; push %d; %s", row.w, row.x, row.word), row.want)
		wantTop(t, fmt.Sprintf("push 1000; push %d; push %d; %s; drop", row.w, row.x, row.word), 1000)
		wantTop(t, fmt.Sprintf("push %d; push %d; call 0", row.w, row.x), row.want, "2 2: load 0; load 1; "+row.word+"; ret")
	}
	for _, row := range []struct {
		word    string
		x, want int64
	}{
		{"neg", 5, -5}, {"neg", -5, 5}, {"neg", 0, 0}, {"neg", least, least}, {"neg", most, -most}, {"not", 0, 1}, {"not", 7, 0}, {"not", -1, 0}, {"not", 1, 0},
		{"abs", -5, 5}, {"abs", 5, 5}, {"abs", 0, 0}, {"abs", least, least}, {"abs", -most, most},
	} {
		wantTop(t, fmt.Sprintf("push 99; push %d; %s", row.x, row.word), row.want)
		wantTop(t, fmt.Sprintf("push 1000; push %d; %s; drop", row.x, row.word), 1000)
		wantTop(t, fmt.Sprintf("push %d; call 0", row.x), row.want, "1 1: load 0; "+row.word+"; ret")
	}
	wantTop(t, "push 6; push 7; drop", 6)
	wantTop(t, fmt.Sprint("push ", int64(least)), least)
	wantTop(t, fmt.Sprint("push ", int64(most)), most)
}

// TestAsks: K1, what comes from outside: the frame, the entity, inputs; in functions, too.
func TestAsks(t *testing.T) {
	wantTop(t, "tick", 9)
	wantTop(t, "me", 5)
	wantTop(t, "call 0", 9, "0 0: tick; ret")
	wantTop(t, "call 0", 5, "0 0: me; ret")
	for _, row := range []struct{ player, key, want int64 }{
		{1, 2, 11}, {2, 1, 12}, {1, 1, 0}, {2, 2, 0}, {0, 0, 0}, {-1, -2, 13}, {math.MinInt64, math.MaxInt64, 0}, {1 + 1<<32, 2, 0}, {1, 2 + 1<<32, 0},
	} {
		wantTop(t, fmt.Sprintf("push %d; push %d; input", row.player, row.key), row.want)
		wantTop(t, "call 0", row.want, fmt.Sprintf("0 0: push %d; push %d; input; ret", row.player, row.key))
	}
	wantTop(t, "push 1; push 2; input; push 2; push 1; input; sub; push 1; push 2; input; mul", -11)
	p := program("tick; me; emit; push 1; push 1; input; push 0; emit; stop")
	e := api.Env{Frame: -3, Row: api.Row{E: api.Entity{Index: -8, Gen: -9}}}
	if got := told(machine.Run(p, 1, e)); got != "0; event 1 -8.-9 -3 -8; event 1 -8.-9 0 0" {
		t.Errorf("K1: a frame and an entity below 0: %s", got)
	}
}

// TestDice: K1, one dice for the whole run, by the seed, the frame, the system's number and the entity's index.
func TestDice(t *testing.T) {
	for _, e := range []api.Env{env(), {}, {Seed: -1, Frame: -2, System: 1, Row: api.Row{E: api.Entity{Index: 3, Gen: 1}}}, {Seed: 1 << 60, Frame: 1 << 40, Row: api.Row{E: api.Entity{Index: 199, Gen: 1000000}}}} {
		for system := range 3 {
			p := program("")
			p.Systems[system].Run = api.Routine{Code: instrs("push 100; rand; push 0; rand; emit; push 1000; call 0; push 1000; rand; emit; push -4; rand; push 1000000; rand; emit; push 9223372036854775807; rand; tick; emit; stop")}
			p.Funcs = []api.Routine{function("1 1: load 0; rand; ret")}
			d := dice.New(e.Seed, e.Frame, system, e.Row.E.Index)
			var want []int64
			for _, n := range []int64{100, 0, 1000, 1000, -4, 1000000, math.MaxInt64} {
				want = append(want, d.Below(n))
			}
			want = append(want, int64(e.Frame))
			var got []int64
			o := machine.Run(p, system, e)
			for _, event := range o.Events {
				got = append(got, event.Code, event.Value)
			}
			if o.Err != api.OK || !slices.Equal(got, want) {
				t.Errorf("K1: the dice of the system %d for %v: %v, want %v", system, e, got, want)
			}
		}
	}
}

// TestWays: K1, where a run goes on.
func TestWays(t *testing.T) {
	choose := "push %d; zero 4; push 1; jump 5; push 2"
	wantTop(t, fmt.Sprintf(choose, 0), 2)
	wantTop(t, fmt.Sprintf(choose, 8), 1)
	wantTop(t, fmt.Sprintf(choose, -1), 1)
	wantTop(t, fmt.Sprintf(choose, math.MinInt64), 1)
	wantTop(t, "push 5; push 9; zero 0; push 1; add", 6)
	wantTop(t, "push 3; jump 3; 40; tick; drop; push 1; zero 99; push 4", 4) // what is not come to does not matter
	loop := "push 5; store 0; load 1; load 0; add; store 1; load 0; push 1; sub; store 0; load 0; zero 13; jump 2; load 1"
	wantTop(t, loop, 15)
	want(t, "jump 3; step; stop; step; step; jump 1", "3; is 1:7,8")
	want(t, "push 0; zero 3; stop; step; stop", "1; is 1:7,8")
	want(t, "push 1; zero 3; stop; step; stop", "0; is 1:7,8")
	want(t, "stop; 40; add", "0; is 1:7,8")
}

// TestLocals: K1, as many as Locals says, 0 at first; of a function as many as its params, if these are more; a system's Params do not count.
func TestLocals(t *testing.T) {
	wantTop(t, "load 0; load 1; add", 0)
	wantTop(t, "push 4; store 1; load 1", 4)
	wantTop(t, "push 4; store 1; push 5; store 0; load 1", 4)
	wantTop(t, "push 4; store 1; push 5; store 1; load 1; load 0; sub", 5)
	for _, row := range []struct{ params, locals, count int }{
		{0, 2, 2}, {0, 0, 0}, {0, -1, 0}, {0, math.MinInt, 0}, {0, 31, 31}, {0, 32, 32}, {0, 33, 32}, {0, math.MaxInt, 32}, {5, 2, 2}, {40, 3, 3}, {-1, 3, 3}, {math.MaxInt, 0, 0},
	} {
		for a := range int64(36) {
			for _, text := range []string{fmt.Sprintf("load %d; put 8; stop", a), fmt.Sprintf("push 0; store %d; push 0; put 8; stop", a)} {
				p := program(text)
				p.Systems[1].Run.Params, p.Systems[1].Run.Locals = row.params, row.locals
				want := "0; is 1:0,8"
				if a >= int64(row.count) {
					want = "access 0"
				}
				if got := told(machine.Run(p, 1, env())); got != want {
					t.Errorf("K1: %s, of a system with Params %d, Locals %d: %s, want %s", text, row.params, row.locals, got, want)
				}
			}
		}
	}
	for _, row := range []struct{ params, locals, count int }{
		{0, 2, 2}, {0, 0, 0}, {0, -1, 0}, {-1, 0, 0}, {-5, 1, 1}, {math.MinInt, 2, 2}, {0, 32, 32}, {0, 33, 32}, {0, math.MaxInt, 32}, {2, 0, 2}, {2, -4, 2}, {2, 2, 2}, {2, 3, 3}, {4, 33, 32},
		{32, 5, 32}, {33, 5, 33}, {33, 34, 33}, {40, 32, 40}, {40, 64, 40}, {63, 0, 63}, {64, 0, 64},
	} {
		for _, a := range []int{0, 1, 2, 3, 4, 31, 32, 33, 39, 40, 62, 63, 64, -1} {
			for _, text := range []string{"load %d; ret", "push 0; store %d; load %[1]d; ret"} {
				text = fmt.Sprintf(text, a)
				f := api.Routine{Params: row.params, Locals: row.locals, Code: instrs(text)}
				ahead := ""
				for i := range max(row.params, 0) {
					ahead += fmt.Sprintf("push %d;", 100+i)
				}
				p := program(ahead + "call 0; put 8; stop")
				p.Funcs = []api.Routine{f}
				want := "1; is 1:0,8"
				if a < 0 || a >= row.count {
					want = "access 1"
				} else if a < row.params && strings.HasPrefix(text, "load") {
					want = fmt.Sprintf("1; is 1:%d,8", 100+a)
				}
				if got := told(machine.Run(p, 1, env())); got != want {
					t.Errorf("K1: %s, of a function with Params %d, Locals %d: %s, want %s", text, row.params, row.locals, got, want)
				}
			}
		}
	}
}

// TestCalls: K1, a call has locals and a stack of its own, counts a step, and answers onto the stack of the one ahead.
func TestCalls(t *testing.T) {
	sub := "2 3: load 0; load 1; sub; store 2; load 2; ret"
	want(t, "push 100; push 9; push 4; call 0; add; put 8; stop", "1; is 1:105,8", sub)
	wantTop(t, "push 1; push 2; call 0; push 10; call 0; push 3; call 0", -14, sub)
	wantTop(t, "push 7; store 0; push 1; push 2; call 0; drop; load 0", 7, sub)
	wantTop(t, "push 1; push 2; call 0; drop; push 5; push 6; call 1", 0, sub, "2 3: load 2; ret") // locals are 0 again
	wantTop(t, "push 3; call 0", 6, "1 1: load 0; push 1; sub; store 0; load 0; zero 9; load 0; call 1; jump 10; push 0; load 0; push 1; add; add; ret", "1 1: load 0; call 0; ret")
	want(t, "push 3; call 0; put 8; stop", "4; is 1:123,8", "1 1: load 0; call 1; push 100; add; ret", "1 1: load 0; push 10; mul; load 0; call 2; sub; ret", "1 1: load 0; step; push 4; add; ret")
	wantTop(t, "push 8; call 0", 42, "0 0: push 1; push 2; push 42; ret") // what is left on its stack is there no more
	wantTop(t, "push 8; call 0; drop", 8, "0 0: push 1; push 2; push 42; ret")
	want(t, "push 8; call 0; drop; drop; drop; stop", "stack 1", "0 0: push 1; push 2; push 42; ret")
	want(t, "push 8; push 9; call 0; put 8; stop", "stack 1", "0 0: add; ret") // the stack of the one ahead is not its
	want(t, "push 8; push 9; call 0; put 8; stop", "1; is 1:17,8", "2 0: load 1; load 0; add; ret")
	want(t, "push 1; zero 5; call 0; drop; jump 1; step; stop", "stack 1", "0 0: push 0; ret")
	wantTop(t, "call 1", 3, "0 0: push 2; ret", "0 0: push 3; ret", "0 0: push 4; ret")
	full := strings.Repeat("push 1;", 64)
	wantTop(t, strings.Repeat("push 1;", 60)+"call 0", 64, "0 0: "+full+strings.Repeat("add;", 63)+"ret") // each stack may be full
}

// TestFields: K1, values that are put are there at once; of a kind that stands twice in the row the first part counts.
func TestFields(t *testing.T) {
	wantTop(t, "field 8", 7)
	wantTop(t, "field 9", 8)
	wantTop(t, "field 16", 3)
	wantTop(t, "push 5; put 8; push 1; field 8; add", 6)
	want(t, "push 5; put 9; field 9; put 8; push -1; put 9; stop", "0; is 1:5,-1")
	p := program("field 8; field 16; add; put 15; field 14; put 8; stop")
	e := env()
	e.Row.Parts = []api.Part{{Kind: 2, Values: []int64{20, 21}}, {Kind: 1, Values: []int64{0, 1, 2, 3, 4, 5, 6, 7, 8}}, {Kind: 2, Values: []int64{30}}, {Kind: 1, Values: []int64{9}}, {Kind: 2}}
	if got := told(machine.Run(p, 1, e)); got != "0; is 1:6,1,2,3,4,5,6,20,8" {
		t.Errorf("K1: a row of parts that stand twice: %s", got)
	}
	e.Row.Parts = []api.Part{{Kind: 1}, {Kind: 1, Values: []int64{9}}}
	if got := told(machine.Run(p, 1, e)); got != "access 0" {
		t.Errorf("K1: the first part has no value, the second one has: %s", got)
	}
	shared := []int64{7}
	e.Row.Parts = []api.Part{{Kind: 1, Values: shared}, {Kind: 3, Values: shared}, {Kind: 2, Values: shared}}
	if got := told(machine.Run(program("push 5; put 8; field 24; field 16; emit; stop"), 1, e)); got != "0; is 1:5; is 3:7; event 1 5.2 7 7" {
		t.Errorf("K1: parts whose values were one list: %s", got)
	}
}

// TestOddKinds: K1, Field and Put speak of whatever kinds were declared, if the entity has them; Has only of kinds there may be.
func TestOddKinds(t *testing.T) {
	const far = 1 << 40
	p := api.Program{Systems: []api.System{{Reads: []int{0, 100, -1, far}, Writes: []int{-7, 13, 0, far, 13, -7}, Run: api.Routine{Code: instrs(fmt.Sprintf(
		"field 1; push 10; add; put 0; field 800; put 104; field %d; put %d; stop", int64(far)*8+1, int64(far)*8))}}}}
	e := env()
	e.Row.Parts = []api.Part{{Kind: far, Values: []int64{1, 2}}, {Kind: 0, Values: []int64{5, 6}}, {Kind: 13, Values: []int64{0}}, {Kind: 100, Values: []int64{44}}, {Kind: -7, Values: []int64{3}}, {Kind: -1, Values: []int64{1, 1, 1}}}
	if got := told(machine.Run(p, 0, e)); got != "0; is -7:3; is 0:16,6; is 13:44; is 1099511627776:2,2" {
		t.Errorf("K1: odd kinds: %s", got)
	}
	for _, text := range []string{
		"field -1", "field -7", "field -8", "field -9", "field -15", "field -56", "field -9223372036854775808", "field 2", "field 12", "field 16", "field 105", "field 108", "field 801",
		"push 1; put -1", "push 1; put -7", "push 1; put -8", "push 1; put -56", "push 1; put -63", "push 1; put 2", "push 1; put 105", "push 1; put 800", // 100 is only read
	} {
		p.Systems[0].Run.Code = instrs(text + "; stop")
		if got := told(machine.Run(p, 0, e)); got != "access 0" {
			t.Errorf("K1: %s: %s", text, got)
		}
	}
	for _, a := range []int64{0, 13, 100, -7, far, math.MaxInt64, math.MinInt64} {
		p.Systems[0].Run.Code = instrs(fmt.Sprintf("has %d; stop", a))
		if got := told(machine.Run(p, 0, e)); got != "access 0" {
			t.Errorf("K1: has %d: %s", a, got)
		}
	}
}

// TestHas: K1, which kinds the row has: declared or not, with values or not, and whatever was asked for meanwhile.
func TestHas(t *testing.T) {
	for kind := range int64(12) {
		top := int64(0)
		if kind+1 == 1 || kind+1 == 2 || kind+1 == 4 {
			top = 1
		}
		wantTop(t, fmt.Sprintf("has %d", kind+1), top)
		wantTop(t, fmt.Sprintf("take %d; die; give %d; has %[1]d", kind+1, (kind+1)*8), top)
	}
}

// TestTells: K1, events and commands, in the order in which they came; all else of a command is zero.
func TestTells(t *testing.T) {
	for _, row := range []struct{ text, want string }{
		{"push 1; push 2; emit; push 3; push -4; emit", "event 1 5.2 1 2; event 1 5.2 3 -4"},
		{"die", "do 2 5.2 0:"}, {"die; die", "do 2 5.2 0:; do 2 5.2 0:"},
		{"take 1", "do 4 5.2 1:"}, {"take 12", "do 4 5.2 12:"},
		{"give 8", "do 3 5.2 1:"}, {"give 96", "do 3 5.2 12:"}, {"push 5; give 97", "do 3 5.2 12:5"}, {"push 4; push 5; push 6; push 7; give 28", "do 3 5.2 3:4 5 6 7"},
		{"push 1; push 2; push 3; push 4; push 5; push 6; push 7; push 8; give 15; give 9", "do 3 5.2 1:2 3 4 5 6 7 8; do 3 5.2 1:1"},
		{"spawn", "do 1 0.0 0:"}, {"part 8; spawn", "do 1 0.0 0: (1:)"}, {"push 3; push 4; part 98; spawn; spawn", "do 1 0.0 0: (12:3,4); do 1 0.0 0:"},
		{"push 3; part 17; push 4; push 5; part 10; spawn", "do 1 0.0 0: (1:4,5) (2:3)"},
		{"push 1; push 2; push 3; push 4; push 5; push 6; push 7; part 103; part 8; spawn", "do 1 0.0 0: (1:) (12:1,2,3,4,5,6,7)"},
		{"push 1; push 2; push 3; part 17; part 9; part 17; spawn", "do 1 0.0 0: (1:2) (2:3) (2:1)"}, // alike: as they came
		{"push 1; part 25; push 2; part 25; push 3; part 9; push 4; part 25; spawn; push 5; part 9; spawn", "do 1 0.0 0: (1:3) (3:1) (3:2) (3:4); do 1 0.0 0: (1:5)"},
		{"push 9; part 9; die; give 16; push 1; push 2; emit; part 8; spawn", "do 2 5.2 0:; do 3 5.2 2:; do 1 0.0 0: (1:9) (1:); event 1 5.2 1 2"}, // what is kept waits
		{"push 9; part 9", ""}, // or is forgotten
		{"take 2; give 24; spawn; die; push 1; push 1; emit; take 3", "do 4 5.2 2:; do 3 5.2 3:; do 1 0.0 0:; do 2 5.2 0:; do 4 5.2 3:; event 1 5.2 1 1"},
	} {
		behind := ""
		if row.want != "" {
			behind = "; "
		}
		want(t, row.text+"; stop", "0; is 1:7,8"+behind+row.want)
	}
	for count := range 8 {
		for kind := range 12 {
			ahead, values := "push 50;", ""
			for i := range count {
				ahead += fmt.Sprintf("push %d;", 60+i)
				values += fmt.Sprintf(",%d", 60+i)
			}
			values = strings.TrimPrefix(values, ",")
			a := (kind+1)*8 + count
			want(t, fmt.Sprintf("%s part %d; spawn; put 9; stop", ahead, a), fmt.Sprintf("0; is 1:7,50; do 1 0.0 0: (%d:%s)", kind+1, values))
			want(t, fmt.Sprintf("%s give %d; put 9; stop", ahead, a), fmt.Sprintf("0; is 1:7,50; do 3 5.2 %d:%s", kind+1, strings.ReplaceAll(values, ",", " ")))
		}
	}
}

// TestKept: K1, as many parts as there are kinds may be kept, for each spawn anew, alike ones, too.
func TestKept(t *testing.T) {
	twelve := strings.Repeat("part 16;", 12)
	parts := strings.Repeat(" (2:)", 12)
	want(t, twelve+"spawn;"+twelve+"spawn; stop", "0; is 1:7,8; do 1 0.0 0:"+parts+"; do 1 0.0 0:"+parts)
	want(t, twelve+"stop", "0; is 1:7,8")
	want(t, twelve+"part 16; stop", "access 0")
	want(t, twelve+"spawn; step;"+twelve+"give 16; die; part 8; stop", "access 1")
}

// TestValues: K1, what Stop tells: the parts of the kinds of Writes that the entity has, by rising kinds, each once, each whole.
func TestValues(t *testing.T) {
	e := env()
	e.Row.Parts = []api.Part{{Kind: 5, Values: []int64{50, 51}}, {Kind: 3}, {Kind: 1, Values: []int64{10}}, {Kind: 5, Values: []int64{-1}}, {Kind: 4, Values: []int64{40, 41, 42, 43, 44}}, {Kind: 2, Values: []int64{20}}}
	for _, row := range []struct {
		reads, writes []int
		want          string
	}{
		{nil, nil, "0"}, {[]int{1, 2, 3, 4, 5}, nil, "0"}, {[]int{1}, []int{6, 7}, "0"},
		{nil, []int{1, 2, 3, 4, 5, 6}, "0; is 1:10; is 2:20; is 3:; is 4:40,41,42,43,44; is 5:50,51"},
		{nil, []int{5, 4, 3, 2, 1}, "0; is 1:10; is 2:20; is 3:; is 4:40,41,42,43,44; is 5:50,51"},
		{[]int{5}, []int{5, 3, 5, 9, 3, 3}, "0; is 3:; is 5:50,51"}, {nil, []int{4, 4}, "0; is 4:40,41,42,43,44"},
	} {
		p := api.Program{Systems: []api.System{{Reads: row.reads, Writes: row.writes, With: []int{11}, Without: []int{1, 2, 3, 4, 5}, Run: api.Routine{Code: instrs("stop")}}}}
		if got := told(machine.Run(p, 0, e)); got != row.want {
			t.Errorf("K1: Values, with Writes %v: %s, want %s", row.writes, got, row.want)
		}
	}
	want(t, "push 1; put 8; push 2; put 8; push 3; put 9; die; take 1; stop", "0; is 1:2,3; do 2 5.2 0:; do 4 5.2 1:")
	if got := told(machine.Run(program("give 8; has 1; put 24; stop"), 1, api.Env{})); got != "access 0" {
		t.Errorf("K1: a kind that was asked for is not there yet: %s", got)
	}
}

// TestNames: K1, names, and sets of kinds that say for whom a system runs, do not matter to a run.
func TestNames(t *testing.T) {
	p := program("step; field 8; call 0; put 8; die; stop", "1 1: load 0; push 2; mul; ret")
	before := told(machine.Run(p, 1, env()))
	p.Systems[1].Run.Name, p.Funcs[0].Name = strings.Repeat("long", 100), "\xff\x00"
	p.Systems[1].With, p.Systems[1].Without = []int{11, 12}, []int{1, 2, -4}
	if got := told(machine.Run(p, 1, env())); got != before || before != "2; is 1:14,8; do 2 5.2 0:" {
		t.Errorf("K1: with other names: %s, want %s", got, before)
	}
}
