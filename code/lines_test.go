package code_test

import (
	"fmt"
	"math"
	"reflect"
	"slices"
	"strings"
	"testing"

	"hindcast/api"
	"hindcast/code"
)

// wantList holds what List tells of a routine that may be listed, and reads it again.
func wantList(t *testing.T, r api.Routine, want string) {
	t.Helper()
	if got := code.List(r); got != want {
		t.Fatalf("O3: List of %.200v: %q, want %q", r, got, want)
	}
	if len(r.Code) == 0 {
		r.Code = nil
	}
	if got, err := code.Read(want); err != nil || !reflect.DeepEqual(got, r) {
		t.Fatalf("O3: Read(%.200q): %.200v, %v, want %.200v", want, got, err, r)
	}
}

// wantLines holds what List says of a routine against the model, whether it may be listed or not.
func wantLines(t *testing.T, r api.Routine) {
	t.Helper()
	want := modelList(r)
	if want != "" {
		wantList(t, r, want)
	} else if got := code.List(r); got != "" {
		t.Errorf("O3: List of %.200v: %.200q, want nothing", r, got)
	}
}

// wantNoRoutine holds a text against a fault at a place.
func wantNoRoutine(t *testing.T, s string, at int) {
	t.Helper()
	r, err := code.Read(s)
	wantFault(t, fmt.Sprintf("O3: Read of %.200q", s), err, at)
	if !reflect.DeepEqual(r, api.Routine{}) {
		t.Errorf("P2: Read of %.200q: %.100v beside an error", s, r)
	}
}

// wantText holds what Read says of a text against the model.
func wantText(t *testing.T, s string) {
	t.Helper()
	if place := modelReadPlace(s); place >= 0 {
		wantNoRoutine(t, s, place)
		return
	}
	r, err := code.Read(s)
	if err != nil {
		t.Fatalf("O3: Read of %.200q: %v, want a routine", s, err)
	}
	if again := code.List(r); again != s {
		t.Fatalf("O3: List of the routine of %.200q: %.200q", s, again)
	}
}

// all is a routine with every op, and its lines by hand.
func all() (api.Routine, string) {
	r := api.Routine{Name: "all", Params: 2, Locals: 10}
	s := "all 2 10\n"
	for op := 1; op <= 39; op++ {
		i := in(op)
		s += lines[op].word
		if lines[op].numbered {
			i.A = int64(op*op) * int64(1-op%3)
			s += fmt.Sprintf(" %d", i.A)
		}
		s += "\n"
		r.Code = append(r.Code, i)
	}
	return r, s
}

// TestLists: O3, line by line.
func TestLists(t *testing.T) {
	r, s := all()
	wantList(t, r, s)
	wantList(t, api.Routine{Name: "f"}, "f 0 0\n")
	wantList(t, api.Routine{Name: "f", Code: []api.Instr{}}, "f 0 0\n")
	wantList(t, api.Routine{Name: "0", Params: 4, Locals: 32}, "0 4 32\n")
	wantList(t, api.Routine{Name: "!~-_123456789abc", Locals: 9, Code: []api.Instr{in(code.Push, math.MinInt64), in(code.Push, math.MaxInt64), in(code.Jump, 0), in(code.Zero, -1), in(code.Has, 10)}},
		"!~-_123456789abc 0 9\npush -9223372036854775808\npush 9223372036854775807\njump 0\nzero -1\nhas 10\n")
	wantList(t, api.Routine{Name: "f", Params: 1, Locals: 1, Code: []api.Instr{in(code.Stop)}}, "f 1 1\nstop\n")
}

// TestListedHeads: O3, names of each byte and length, and all small numbers of Params and Locals.
func TestListedHeads(t *testing.T) {
	for params := -2; params <= 6; params++ {
		for locals := -2; locals <= 40; locals++ {
			wantLines(t, api.Routine{Name: "f", Params: params, Locals: locals})
		}
	}
	for _, n := range []int{math.MinInt, math.MaxInt, 1 << 8, 1<<8 + 2, 1<<32 + 2, -1 << 8} {
		wantLines(t, api.Routine{Name: "f", Params: n, Locals: 4})
		wantLines(t, api.Routine{Name: "f", Params: 2, Locals: n})
		wantLines(t, api.Routine{Name: "f", Params: n, Locals: n})
	}
	for c := range 256 {
		b := string([]byte{byte(c)})
		for _, name := range []string{b, "a" + b, b + "a", "a" + b + "a", strings.Repeat(b, 15), strings.Repeat(b, 16), strings.Repeat(b, 17), strings.Repeat("a", 15) + b} {
			wantLines(t, api.Routine{Name: name, Code: []api.Instr{in(code.Step)}})
		}
	}
	for _, name := range []string{"", "é", "名", strings.Repeat("é", 8), strings.Repeat("a", 16), strings.Repeat("a", 17), strings.Repeat("a", 1<<20)} {
		wantLines(t, api.Routine{Name: name})
	}
	for _, name := range []string{"", "a b", " ", "a\n", "\n", "\x7f", "\x20a", "é"} {
		if got := code.List(api.Routine{Name: name}); got != "" {
			t.Errorf("O3: List of the name %q: %q", name, got)
		}
	}
}

// TestListedInstructions: O3, every op, those that there are not too, with many numbers.
func TestListedInstructions(t *testing.T) {
	for op := -3; op <= 45; op++ {
		for _, a := range numbers() {
			wantLines(t, api.Routine{Name: "f", Code: []api.Instr{in(op, a)}})
		}
	}
	for _, op := range []int{math.MinInt, math.MaxInt, 1 << 8, 1<<8 + 1, 1<<32 + 1} {
		wantLines(t, api.Routine{Name: "f", Code: []api.Instr{in(op)}})
	}
	for _, i := range []api.Instr{in(0), in(40), in(code.Add, 1), in(code.Drop, -1), in(code.Stop, math.MinInt64)} {
		wantLines(t, api.Routine{Name: "f", Code: []api.Instr{in(code.Step), i, in(code.Stop)}})
		wantLines(t, api.Routine{Name: "f", Code: append(steps(1999), i)})
	}
}

// TestManyLines: O3, at most 2000 instructions.
func TestManyLines(t *testing.T) {
	for _, n := range []int{1, 1999, 2000, 2001, 2002, 5000} {
		wantLines(t, api.Routine{Name: "f", Code: steps(n)})
		wantText(t, "f 0 0\n"+strings.Repeat("step\n", n))
	}
	if got := code.List(api.Routine{Name: "f", Code: steps(2001)}); got != "" {
		t.Errorf("O3: List of 2001 instructions has %d bytes", len(got))
	}
	full := "f 0 0\n" + strings.Repeat("step\n", 2000)
	if r, err := code.Read(full); err != nil || len(r.Code) != 2000 {
		t.Errorf("O3: Read of 2000 instructions: %d, %v", len(r.Code), err)
	}
	for _, more := range []string{"step\n", "step", "s", " ", "\n", "step\nx\n", "push\n", strings.Repeat("step\n", 100000)} {
		wantNoRoutine(t, full+more, len(full))
	}
	wantNoRoutine(t, strings.Replace(full, "step\nstep\n", "step\nstop 1\n", 1)+"step\n", 11)
	wantNoRoutine(t, full[:len(full)-1], len(full)-5)
}

// TestWrongHeads: O3, first lines that are not as they must be; whatever stands behind them, the place is 0.
func TestWrongHeads(t *testing.T) {
	for _, head := range []string{
		"", " ", "f", "f ", "f 0", "f 0 ", "f  0 0", "f 0  0", " f 0 0", "f 0 0 ", "f 0 0 0", "f\t0 0", "f 0\t0", "f 0 0\t", "f 0 0\r", "\rf 0 0", "f,0,0", "0 0", " 0 0", "  0 0",
		"f 00 0", "f 0 00", "f 01 1", "f 1 01", "f -0 0", "f 0 -0", "f +0 0", "f 0 +1", "f -1 0", "f 0 -1", "f -1 -1", "f 1 0", "f 4 3", "f 5 5", "f 5 32", "f 0 33", "f 0 99", "f 0 100", "f 4 1_0", "f 0x1 2", "f 0 0x1", "f 1e0 2", "f a 0", "f 0 a", "f ٣ 4", "f 1. 2", "f 1 2.0",
		"f 4294967296 4294967296", "f 0 4294967296", "f 0 4294967297", "f 1 18446744073709551617", "f 18446744073709551616 0", "f 9223372036854775808 0", "f 0 9223372036854775808", "f 0 -9223372036854775809", "f 0 " + strings.Repeat("9", 10000), "f 0 " + strings.Repeat("0", 10000),
		"seventeen_bytes_1 0 0", strings.Repeat("n", 10000) + " 0 0", "\x7f 0 0", "\x00 0 0", "é 0 0", "f\x1f 0 0", "\xff 0 0", "f\x80 1 1", "add", "push 1", "f g 0 0", "f\x00 0 0", "f 0\x00 0", "f 0 0\x00",
	} {
		wantNoRoutine(t, head, 0)
		wantNoRoutine(t, head+"\n", 0)
		wantNoRoutine(t, head+"\nstep\n", 0)
		wantNoRoutine(t, head+"\nxx", 0)
		wantNoRoutine(t, "\n"+head+"\n", 0)
	}
	for _, head := range []string{"f 0 0", "f 4 32", "f 0 32", "f 4 4", "! 0 0", "~ 1 1", "0 0 0", "00 0 0", "-1 1 1", "sixteen_bytes_16 0 10"} {
		wantNoRoutine(t, head, 0)
		wantText(t, head+"\n")
		if _, err := code.Read(head + "\n"); err != nil {
			t.Errorf("O3: Read(%q): %v", head+"\n", err)
		}
	}
}

// TestWrongLines: O3, lines of instructions that are not as they must be.
func TestWrongLines(t *testing.T) {
	head := "f 0 0\nadd\npush 1\n"
	for _, text := range []string{
		"", " ", "add ", " add", "add 0", "add 1", "add  0", "Add", "ADD", "add\t", "add\r", "ad", "addd", "add sub", "add,sub", "halt", "\x00", "é", "1", "6", "0", "-1",
		"push", "push ", " push 1", "push  1", "push 1 ", "push 1 2", "push 1 ", "push\t1", "push 1\r", "Push 1", "push1", "push,1",
		"push 00", "push 01", "push -0", "push -01", "push +1", "push +0", "push --1", "push -", "push +", "push 1_0", "push 0x1", "push 0b1", "push 0o7", "push 1e3", "push 1.0", "push a", "push ٣", "push \x00", "push 1\x00", "push ' '",
		"push 9223372036854775808", "push -9223372036854775809", "push 18446744073709551616", "push 18446744073709551617", "push 99999999999999999999", "push -99999999999999999999", "push " + strings.Repeat("1", 100000), "push " + strings.Repeat("0", 100000), "push -" + strings.Repeat("9", 100000), "push " + strings.Repeat(" ", 1000), strings.Repeat("push ", 1000),
		"jump", "jump 00", "drop 0", "stop 0", "has", "take", "give", "part", "call", "zero", "load", "store", "field", "put", "f 0 0",
	} {
		wantNoRoutine(t, head+text+"\n", len(head))
		wantNoRoutine(t, head+text+"\nadd\n", len(head))
		wantNoRoutine(t, head+text+"\nxx", len(head))
		if text != "" {
			wantNoRoutine(t, head+text, len(head))
		}
		wantNoRoutine(t, "f 0 0\n"+text+"\n", 6)
	}
	for op, l := range lines {
		right, wrong := l.word, l.word+" 0"
		if l.numbered {
			right, wrong = wrong, right
		}
		wantNoRoutine(t, head+right, len(head))
		wantNoRoutine(t, head+wrong+"\n", len(head))
		if r, err := code.Read(head + right + "\n"); err != nil || !slices.Equal(r.Code, []api.Instr{in(code.Add), in(code.Push, 1), in(op)}) {
			t.Errorf("O3: Read(%q): %v, %v", head+right+"\n", r, err)
		}
	}
}

// TestEveryTextByte: O3, each byte of some texts turned to each other one, left out, and put in.
func TestEveryTextByte(t *testing.T) {
	_, s := all()
	for _, s := range []string{"f 0 0\n", "f 1 2\nload 0\npush -3\nadd\nret\n", "sixteen_bytes_16 4 32\npush -9223372036854775808\npush 9223372036854775807\nstop\n", s} {
		wantText(t, s)
		for i := range s {
			for c := range 256 {
				b := string([]byte{byte(c)})
				wantText(t, s[:i]+b+s[i+1:])
				wantText(t, s[:i]+b+s[i:])
			}
			wantText(t, s[:i])
			wantText(t, s[i:])
			wantText(t, s[:i]+s[i+1:])
			wantText(t, s[:i]+s[i:i+1]+s[i:])
		}
		for c := range 256 {
			wantText(t, s+string([]byte{byte(c)}))
		}
		wantText(t, s+s)
	}
}

// TestNumbersAsTexts: O3, all texts of some bytes as a number.
func TestNumbersAsTexts(t *testing.T) {
	var grow func(s string, left int)
	grow = func(s string, left int) {
		wantText(t, "f 0 0\npush "+s+"\n")
		wantText(t, "f 0 "+s+"\n")
		wantText(t, "f "+s+" 4\nadd\n")
		if left == 0 {
			return
		}
		for _, c := range []string{"0", "1", "3", "-", "+", " ", "_", "\n"} {
			grow(s+c, left-1)
		}
	}
	grow("", 4)
	for _, a := range numbers() {
		wantText(t, fmt.Sprintf("f 0 0\npush %d\n", a))
		wantText(t, fmt.Sprintf("f 0 0\npush 0%d\n", a))
		wantText(t, fmt.Sprintf("f 0 0\npush %d0000000000000000000\n", a))
	}
}
