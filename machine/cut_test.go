package machine_test

import (
	"fmt"
	"math"
	"slices"
	"strings"
	"testing"

	"hindcast/api"
	"hindcast/code"
	"hindcast/machine"
)

// wantCut wants this error, whatever steps were counted ahead.
func wantCut(t *testing.T, text, reason string, funcs ...string) {
	t.Helper()
	for _, steps := range []int{0, 1, 2000} {
		p := program(strings.Repeat("step;", steps), funcs...)
		p.Systems[1].Run.Code = append(p.Systems[1].Run.Code, moved(instrs(text), int64(steps))...)
		if got, want := told(machine.Run(p, 1, env())), fmt.Sprint(reason, " ", steps); got != want {
			t.Errorf("K1: %s %.200q, behind %d steps: %s, want %s", short(text), funcs, steps, got, want)
		}
	}
}

// moved lets jumps go where they went, when some instructions are put ahead.
func moved(list []api.Instr, by int64) []api.Instr {
	for n, i := range list {
		if (i.Op == code.Jump || i.Op == code.Zero) && i.A >= 0 && i.A <= int64(len(list)) {
			list[n].A += by
		}
	}
	return list
}

// wantCutInFunction wants this error of instructions in a function, behind the step of its call.
func wantCutInFunction(t *testing.T, text, reason string) {
	t.Helper()
	want(t, "call 0; stop", reason+" 1", "0 2: "+text)
}

// pushes puts this many numbers on the stack.
func pushes(count int) string { return strings.Repeat("push 1;", count) }

// TestJump: ErrJump, the next instruction is none of the routine's.
func TestJump(t *testing.T) {
	wantCut(t, "", "jump")
	for _, a := range []int64{-1, -2, 9000, 1 << 32, math.MaxInt64, math.MinInt64, -1 << 32} {
		wantCut(t, fmt.Sprintf("jump %d; stop", a), "jump")
		wantCut(t, fmt.Sprintf("push 0; zero %d; stop", a), "jump")
		wantCutInFunction(t, fmt.Sprintf("jump %d; push 1; ret", a), "jump")
		want(t, fmt.Sprintf("push 1; zero %d; stop", a), "0; is 1:7,8") // where it does not go does not matter
	}
	for _, text := range []string{"jump 1", "tick; drop; jump 3", "tick", "push 1; push 2; add", "push 1; zero 0", "push 0; zero 2", "die; jump 2"} {
		wantCut(t, text, "jump")
	}
	for _, text := range []string{"", "push 1", "jump 1"} {
		wantCutInFunction(t, text, "jump")
	}
	want(t, "call 0", "jump 1", "0 0: push 1; ret")
	want(t, "step", "jump 1")
	want(t, "call 0; stop; stop; stop; stop; stop", "jump 1", "0 0: jump 3; push 1; ret", "0 0: push 1; ret") // places of other routines do not count
}

// TestEnd: ErrEnd, 40000 instructions were done behind the last step, or since the beginning.
func TestEnd(t *testing.T) {
	dies, steps := strings.Repeat("die;", 16), strings.Repeat("step;", 2000)
	for _, row := range []struct {
		ahead  string
		count  int // jumps, each to the next one
		behind string
		want   string
	}{
		{"", 39999, "stop", "0; is 1:7,8"}, {"", 40000, "stop", "end 0"}, {"", 39998, "tick; stop", "0; is 1:7,8"}, {"", 39999, "tick; stop", "end 0"},
		{"", 39999, "step; stop", "1; is 1:7,8"}, {"", 40000, "step; stop", "end 0"}, {"", 40001, "step; stop", "end 0"},
		{"step", 39999, "stop", "1; is 1:7,8"}, {"step", 40000, "stop", "end 1"}, {"step", 40000, "step; stop", "end 1"}, {"step", 39999, "step; stop", "2; is 1:7,8"},
		{"tick; drop; step", 39999, "stop", "1; is 1:7,8"}, {"tick; drop; step", 40000, "stop", "end 1"}, {"tick; drop", 39997, "stop", "0; is 1:7,8"}, {"tick; drop", 39998, "stop", "end 0"},
		{"", 39999, "", "jump 0"}, {"", 40000, "", "jump 0"}, {"", 40001, "", "end 0"}, // of both the first one
		{"", 40000, "40", "end 0"}, {"", 40000, "add", "end 0"}, {"", 40000, "load 9", "end 0"}, {"", 40000, "call 0", "end 0"}, {"", 40000, "call 9", "end 0"}, // ahead of all else
		{"", 39999, "40", "access 0"}, {"", 39999, "add", "stack 0"}, {"", 39999, "load 9", "access 0"},
		{dies, 40000 - 16, "die", "end 0"}, {dies, 40000 - 17, "die", "long 0"},
		{steps, 40000, "step", "end 2000"}, {steps, 39999, "step", "fuel 2001"}, {steps, 39999, "call 0", "fuel 2001"},
		{"", 39999, "call 0; drop; stop", "1; is 1:7,8"},                                                 // a call counts a step
		{"call 0; drop", 40000 - 4, "stop", "1; is 1:7,8"}, {"call 0; drop", 40000 - 3, "stop", "end 1"}, // behind it two in the function, and one
		{"call 1", 0, "", "end 1"}, {"step; call 1", 0, "", "end 2"}, {"call 2; drop", 39999 - 3, "stop", "2; is 1:7,8"}, {"call 2; drop", 40000 - 3, "stop", "end 2"},
	} {
		p := program(row.ahead, "0 0: push 1; ret", "0 0: jump 0", "0 0: jump 1; tick; drop; step; push 1; ret")
		l := p.Systems[1].Run.Code
		for range row.count {
			l = append(l, api.Instr{Op: code.Jump, A: int64(len(l) + 1)})
		}
		p.Systems[1].Run.Code = append(l, instrs(row.behind)...)
		if got := told(machine.Run(p, 1, env())); got != row.want {
			t.Errorf("K1: %s, %d instructions, %s: %s, want %s", short(row.ahead), row.count, row.behind, got, row.want)
		}
	}
	wantCut(t, "jump 0", "end")
	wantCut(t, "push 0; zero 0", "end")
	wantCut(t, "jump 1; tick; drop; jump 0", "end")
}

// TestNoSuchOp: ErrAccess, there is no such op, whatever the stack is.
func TestNoSuchOp(t *testing.T) {
	for _, op := range []int{0, -1, 40, 41, 64, 255, 256 + 1, 1<<32 + 1, math.MaxInt, math.MinInt, -39} {
		for _, a := range []int64{0, 1, -1} {
			i := fmt.Sprintf("%d %d", op, a)
			wantCut(t, i+"; stop", "access")
			wantCut(t, pushes(64)+i+"; stop", "access")
			wantCutInFunction(t, i+"; push 1; ret", "access")
		}
	}
	for op := 1; op <= 39; op++ {
		if code.Name(op) == "" {
			t.Errorf("the test's own op %d", op)
		}
	}
}

// effects says what each instruction takes and puts.
var effects = []struct {
	text        string
	takes, puts int
}{
	{"push 1", 0, 1}, {"load 0", 0, 1}, {"store 0", 1, 0}, {"field 8", 0, 1}, {"put 8", 1, 0}, {"add", 2, 1}, {"sub", 2, 1}, {"mul", 2, 1}, {"div", 2, 1}, {"rem", 2, 1}, {"neg", 1, 1},
	{"eq", 2, 1}, {"ne", 2, 1}, {"lt", 2, 1}, {"le", 2, 1}, {"gt", 2, 1}, {"ge", 2, 1}, {"not", 1, 1}, {"zero 9999", 1, 0}, {"step", 0, 0}, {"emit", 2, 0}, {"spawn", 0, 0}, {"take 1", 0, 0}, {"die", 0, 0},
	{"rand", 1, 1}, {"tick", 0, 1}, {"me", 0, 1}, {"input", 2, 1}, {"has 1", 0, 1}, {"min", 2, 1}, {"max", 2, 1}, {"abs", 1, 1}, {"drop", 1, 0},
	{"part 8", 0, 0}, {"part 9", 1, 0}, {"part 12", 4, 0}, {"part 15", 7, 0}, {"give 8", 0, 0}, {"give 10", 2, 0}, {"give 103", 7, 0},
	{"call 0", 0, 1}, {"call 1", 1, 1}, {"call 2", 4, 1}, {"call 3", 64, 1}, {"call 4", 0, 1},
}

// TestStack: ErrStack, the stack has fewer numbers than are taken, or would have more than MaxStack; else it is as deep as the table says.
func TestStack(t *testing.T) {
	funcs := []string{"0 0: push 1; ret", "1 1: push 1; ret", "4 4: push 1; ret", "64 0: push 1; ret", "-3 0: push 1; ret"}
	for _, row := range effects {
		steps := 0
		if strings.HasPrefix(row.text, "call") || row.text == "step" {
			steps = 1
		}
		for depth := range 65 {
			behind := depth - row.takes + row.puts
			text := pushes(depth) + row.text + ";"
			if depth < row.takes || behind > 64 {
				wantCut(t, text+"stop", "stack", funcs...)
				continue
			}
			if o := machine.Run(program(text+strings.Repeat("drop;", behind)+"stop", funcs...), 1, env()); o.Err != api.OK || o.Steps != steps {
				t.Errorf("K1: %s of %d numbers: %s, want %d of them then", row.text, depth, told(o), behind)
			}
			want(t, text+strings.Repeat("drop;", behind+1)+"stop", fmt.Sprint("stack ", steps), funcs...)
		}
	}
	wantCut(t, "ret", "stack")
	for _, text := range []string{"add", "push 1; add", "drop", "ret", "push 1; drop; ret", "store 0", "zero 0", pushes(64) + "load 0", pushes(64) + "tick", pushes(65)} {
		wantCutInFunction(t, text, "stack")
	}
	wantCut(t, "push 1; jump 0", "stack")
	want(t, "call 1; stop", "stack 0", "0 0: push 1; ret", fmt.Sprint(math.MaxInt, " 0: push 1; ret"))
	want(t, pushes(64)+"call 0; stop", "stack 0", "65 0: push 1; ret")
}

// TestStackFirst: ErrStack comes ahead of what an instruction touches, and of what is told.
func TestStackFirst(t *testing.T) {
	for _, row := range []struct{ text, reason string }{
		{"store 99", "stack"}, {"store -1", "stack"}, {"put 16", "stack"}, {"put -1", "stack"}, {"put 999", "stack"}, {pushes(64) + "load 99", "stack"}, {pushes(63) + "load 99", "access"},
		{pushes(64) + "field 999", "stack"}, {pushes(63) + "field 999", "access"}, {pushes(64) + "has 99", "stack"}, {pushes(63) + "has 99", "access"},
		{"give 7", "stack"}, {pushes(7) + "give 7", "access"}, {pushes(6) + "part 7", "stack"}, {pushes(7) + "part 7", "access"}, {"give 111", "stack"}, {"part 9223372036854775807", "stack"}, {pushes(7) + "part 9223372036854775807", "access"},
		{"give -1", "access"}, {"part -1", "access"}, {"give -8", "access"}, {"part -9223372036854775808", "access"}, // these take none
		{pushes(64) + "call 9", "stack"}, {pushes(63) + "call 9", "access"}, {pushes(64) + "call -1", "stack"}, {"call -1", "access"},
		{"ret", "stack"}, {"push 1; ret", "access"}, {pushes(64) + "ret", "access"},
		{strings.Repeat("push 1; push 2; emit;", 16) + "push 1; emit", "stack"}, {strings.Repeat("die;", 16) + "give 9", "stack"}, {strings.Repeat("part 8;", 12) + "part 9", "stack"},
	} {
		wantCut(t, row.text, row.reason)
	}
	for _, row := range []struct{ text, reason string }{
		{"put 8", "stack"}, {"push 1; put 8", "access"}, {"push 1; emit", "stack"}, {"push 1; push 1; emit", "access"}, {pushes(64) + "field 8", "stack"}, {pushes(63) + "field 8", "access"},
		{pushes(64) + "has 1", "stack"}, {pushes(63) + "has 1", "access"}, {"part 9", "stack"}, {"push 1; part 9", "access"}, {"give 9", "stack"}, {"push 1; give 9", "access"},
	} {
		wantCutInFunction(t, row.text, row.reason)
	}
	deep := chain(16)
	want(t, "call 0; stop", "stack 16", append(slices.Clone(deep[:15]), "0 0: call 16; ret", "1 1: load 0; ret")...)
	want(t, "call 0; stop", "access 16", append(slices.Clone(deep[:15]), "0 0: push 1; call 16; ret", "1 1: load 0; ret")...)
	want(t, "call 0; stop", "access 16", append(slices.Clone(deep[:15]), "0 0: call 17; ret", "1 1: load 0; ret")...)
}

// TestWhere: ErrAccess, what has to do with the entity in a function, and Ret in a system.
func TestWhere(t *testing.T) {
	only := []string{"field 8", "put 8", "emit", "part 8", "spawn", "give 8", "take 1", "die", "has 1", "stop"}
	for _, row := range effects {
		if strings.HasPrefix(row.text, "call") {
			continue
		}
		reason := "jump"
		word, _, _ := strings.Cut(row.text, " ")
		if slices.ContainsFunc(only, func(text string) bool { return strings.HasPrefix(text, word+" ") || text == word }) {
			reason = "access"
		}
		steps := 1
		if word == "step" {
			steps = 2
		}
		want(t, "call 0; stop", fmt.Sprint(reason, " ", steps), "0 1: "+pushes(7)+row.text)
	}
	for _, text := range only {
		wantCutInFunction(t, pushes(2)+text+"; ret", "access")
		want(t, "call 0; stop", "access 2", "0 0: call 1; ret", "0 0: "+pushes(2)+text+"; ret")
		want(t, "call 0; drop;"+pushes(2)+text+"; jump -1", map[bool]string{true: "1; is 1:7,8", false: "jump 1"}[text == "stop"], "0 0: push 1; ret") // behind a call the system goes on
	}
	wantCut(t, "push 1; ret", "access")
	want(t, "call 0; ret", "access 1", "0 0: push 1; ret")
}

// TestTouch: ErrAccess, locals, fields and kinds that are not there, or were not declared.
func TestTouch(t *testing.T) {
	for _, text := range []string{
		"load 2", "load -1", "load 9223372036854775807", "load -9223372036854775808", "load 4294967296", "push 1; store 2", "push 1; store -1", "push 1; store 4294967296",
		"field 10", "field 15", "field 17", // no such value
		"field 24", "field 48", "field 25", // the entity has it not
		"field 32", "field 0", "field 40", "field 104", "field -8", "field -1", "field 9223372036854775807", "field -9223372036854775808", // not declared
		"push 1; put 10", "push 1; put 24", "push 1; put 16", "push 1; put 17", "push 1; put 48", "push 1; put 32", "push 1; put 0", "push 1; put -8", "push 1; put -1",
		"take 0", "take 13", "take -1", "take 4294967297", "has 0", "has 13", "has -1", "has 4294967297", "take 9223372036854775807", "has -9223372036854775808",
		"give 0", "give 104", "give -8", "give -1", "give 34359738376", "part 0", "part 104", "part -8", "part -1", "part 34359738376",
		"call 0", "call -1", "call 1", "call 4294967296",
	} {
		wantCut(t, text+"; stop", "access")
	}
	want(t, "call 1; stop", "access 0", "0 0: push 1; ret")
	want(t, "call 0; stop", "access 1", "0 0: call 1; ret")
	want(t, "call 0; stop", "access 1", "0 0: call -1; ret")
	for kind := int64(1); kind <= 12; kind++ {
		want(t, fmt.Sprintf("take %d; has %[1]d; give %d; part %[2]d; stop", kind, kind*8), fmt.Sprintf("0; is 1:7,8; do 4 5.2 %d:; do 3 5.2 %[1]d:", kind))
	}
}

// chain is functions each of which calls the next one, and adds 1; the last one answers 100.
func chain(count int) []string {
	var funcs []string
	for i := range count - 1 {
		funcs = append(funcs, fmt.Sprintf("0 0: call %d; push 1; add; ret", i+1))
	}
	return append(funcs, "0 0: push 100; ret")
}

// TestTooDeep: ErrAccess, MaxCalls activations are there besides the system's.
func TestTooDeep(t *testing.T) {
	for count := 1; count <= 16; count++ {
		want(t, "call 0; put 8; stop", fmt.Sprintf("%d; is 1:%d,8", count, 99+count), chain(count)...)
		want(t, "call 0; call 0; add; call 0; sub; put 8; stop", fmt.Sprintf("%d; is 1:%d,8", 3*count, 99+count), chain(count)...) // calls that have ended do not count
	}
	for count := 17; count <= 19; count++ {
		want(t, "call 0; put 8; stop", "access 16", chain(count)...)
		want(t, "call 1; put 8; stop", map[bool]string{true: "16; is 1:115,8", false: "access 16"}[count == 17], chain(count)...)
		want(t, "call 3; drop; call 3; drop; call 0; put 8; stop", fmt.Sprint("access ", 2*(count-3)+16), chain(count)...)
	}
	want(t, "call 0; stop", "access 16", "0 0: call 0; ret")
	want(t, "call 0; stop", "access 16", "0 0: call 1; ret", "0 0: call 0; ret")
}

// TestLong: ErrLong, one more than MaxOut commands, or than MaxOut events; either by itself.
func TestLong(t *testing.T) {
	commands := []string{"spawn", "part 8; spawn", "give 8", "push 1; give 9", "take 1", "die"}
	event := "push 1; push 2; emit;"
	for _, text := range commands {
		o := machine.Run(program(strings.Repeat(text+";", 16)+strings.Repeat(event, 16)+"stop"), 1, env())
		if o.Err != api.OK || len(o.Commands) != 16 || len(o.Events) != 16 {
			t.Errorf("K1: sixteen times %s: %s", text, told(o))
		}
		for _, other := range commands {
			wantCut(t, strings.Repeat(text+";", 16)+other+"; stop", "long")
		}
	}
	wantCut(t, strings.Repeat(event, 17)+"stop", "long")
	wantCut(t, strings.Repeat("die;"+event, 16)+event, "long")
	wantCut(t, strings.Repeat("die;"+event, 16)+"die", "long")
	wantCut(t, "die; jump 0", "long")
	wantCut(t, event+"jump 0", "long")
	// what touches something that it may not, comes first
	sixteen := strings.Repeat("die;", 16)
	for _, text := range []string{"take 0", "take 13", "give 0", "give 104", "give -1", "part 0"} {
		wantCut(t, sixteen+text, "access")
	}
	want(t, strings.Repeat(event, 16)+"call 0", "access 1", "0 0: "+event)
	want(t, sixteen+"call 0", "access 1", "0 0: die")
	o := machine.Run(program(sixteen+"part 8; has 1; put 8; field 9; drop; stop"), 1, env())
	if o.Err != api.OK || len(o.Commands) != 16 {
		t.Errorf("K1: what tells nothing has room: %s", told(o))
	}
}

// TestFuel: ErrFuel, a step comes to be above MaxFuel; of a call behind all that is asked of it.
func TestFuel(t *testing.T) {
	steps := func(count int) string { return strings.Repeat("step;", count) }
	one := "0 0: push 1; ret"
	for _, row := range []struct{ text, want string }{
		{steps(2000) + "stop", "2000; is 1:7,8"}, {steps(2001) + "stop", "fuel 2001"}, {steps(2002) + "stop", "fuel 2001"}, {steps(2001), "fuel 2001"}, {steps(2000), "jump 2000"}, {steps(2001) + "40", "fuel 2001"},
		{steps(1999) + "call 0; stop", "2000; is 1:7,8"}, {steps(2000) + "call 0; stop", "fuel 2001"}, {steps(2000) + "call 9; stop", "access 2000"}, {steps(2000) + "call 1; stop", "stack 2000"}, {steps(2000) + "push 1; call 1; stop", "fuel 2001"},
		{steps(2000) + pushes(64) + "call 0; stop", "stack 2000"}, {steps(1998) + "call 2; stop", "2000; is 1:7,8"}, {steps(1999) + "call 2; stop", "fuel 2001"},
		{"call 0; drop; jump 0", "fuel 2001"}, {"step; call 0; drop; jump 0", "fuel 2001"}, {steps(2000) + "die; push 1; put 8; stop", "2000; is 1:1,8; do 2 5.2 0:"},
	} {
		want(t, row.text, row.want, one, "1 1: push 1; ret", "0 0: step; push 1; ret")
	}
	want(t, "call 0; stop", "fuel 2001", "0 0: step; jump 0")
	want(t, "call 0; stop", "access 16", "0 0: call 0; ret") // too deep, ahead of the fuel
	want(t, steps(1984)+"call 0; stop", "access 2000", "0 0: call 0; ret")
	want(t, steps(1985)+"call 0; stop", "fuel 2001", "0 0: call 0; ret")
}
