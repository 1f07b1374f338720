package code_test

import (
	"bytes"
	"errors"
	"fmt"
	"math"
	"strconv"
	"strings"
	"testing"

	"hindcast/api"
	"hindcast/code"
)

// in is an instruction; without an A it has 0.
func in(op int, a ...int64) api.Instr {
	i := api.Instr{Op: op}
	for _, n := range a {
		i.A = n
	}
	return i
}

// wantFault holds an error against ErrCode at a place.
func wantFault(t *testing.T, what string, err error, at int) {
	t.Helper()
	fault, ok := err.(*api.Fault)
	if !ok || fault == nil || *fault != (api.Fault{At: at, Err: api.ErrCode}) {
		t.Errorf("%s: %v, want %v at %d", what, err, api.ErrCode, at)
	}
	if !errors.Is(err, api.ErrCode) {
		t.Errorf("P5: %s: the fault does not wrap its number", what)
	}
}

// TestExamples: those of the chapter.
func TestExamples(t *testing.T) {
	if takes, puts := code.Effect(in(code.Part, 26), nil); takes != 2 || puts != 0 {
		t.Errorf("O1: Effect of part 26: %d, %d", takes, puts)
	}
	if takes, puts := code.Effect(in(code.Call, 0), []api.Routine{{Params: 3}}); takes != 3 || puts != 1 {
		t.Errorf("O1: Effect of call 0: %d, %d", takes, puts)
	}
	if b, e := code.Encode(api.Program{}); e != api.OK || !bytes.Equal(b, []byte{0, 0}) {
		t.Errorf("O2: Encode of nothing: %x, %v", b, e)
	}
	wantNoProgram(t, nil, 0)
	wantNoProgram(t, []byte{0, 0, 0}, 2)
	f := api.Routine{Name: "f", Params: 1, Locals: 2, Code: []api.Instr{in(code.Load, 0), in(code.Push, -3), in(code.Add), in(code.Ret)}}
	wantList(t, f, "f 1 2\nload 0\npush -3\nadd\nret\n")
	wantNoRoutine(t, "f 1 2\nload 00\n", 6)
	// Of DOC.md, 'Examples of the whole'.
	twice := api.Routine{Name: "twice", Params: 1, Locals: 1, Code: []api.Instr{in(code.Step), in(code.Load, 0), in(code.Push, 2), in(code.Mul), in(code.Ret), in(code.Push, 0), in(code.Ret)}}
	wantList(t, twice, "twice 1 1\nstep\nload 0\npush 2\nmul\nret\npush 0\nret\n")
}

// TestConstants: the ops are as they were given.
func TestConstants(t *testing.T) {
	for i, op := range []int{
		code.Push, code.Load, code.Store, code.Field, code.Put, code.Add, code.Sub, code.Mul, code.Div, code.Rem,
		code.Neg, code.Eq, code.Ne, code.Lt, code.Le, code.Gt, code.Ge, code.Not, code.Jump, code.Zero,
		code.Call, code.Ret, code.Stop, code.Step, code.Emit, code.Part, code.Spawn, code.Give, code.Take, code.Die,
		code.Rand, code.Tick, code.Me, code.Input, code.Has, code.Min, code.Max, code.Abs, code.Drop,
	} {
		if op != i+1 {
			t.Errorf("O1: the op %d is %d", i+1, op)
		}
	}
	// They go with every kind of number, as they have no type of their own.
	var small uint8 = code.Drop
	var wide int64 = code.Drop
	if small != 39 || wide != 39 || len(lines) != 39 {
		t.Errorf("O1: Drop is %d, %d; the chapter has %d ops", small, wide, len(lines))
	}
}

// TestNames: O1, each op's word, and nothing for what is none.
func TestNames(t *testing.T) {
	for op := -1000; op <= 1000; op++ {
		if got := code.Name(op); got != lines[op].word {
			t.Errorf("O1: Name(%d) = %q, want %q", op, got, lines[op].word)
		}
	}
	for _, op := range []int{math.MinInt, math.MinInt + 1, math.MaxInt, 1 << 8, 1<<8 + 1, 1 << 16, 1<<16 + 1, 1 << 30, -1 << 30, math.MaxInt32, math.MinInt32} {
		if got := code.Name(op); got != "" {
			t.Errorf("O1: Name(%d) = %q", op, got)
		}
	}
}

// TestNumbers: O1, each word's op, byte by byte.
func TestNumbers(t *testing.T) {
	want := func(word string) {
		t.Helper()
		if got := code.Number(word); got != wordOps[word] {
			t.Errorf("O1: Number(%q) = %d, want %d", word, got, wordOps[word])
		}
	}
	for word, op := range wordOps {
		if got := code.Number(word); got != op {
			t.Errorf("O1: Number(%q) = %d, want %d", word, got, op)
		}
		if got := code.Name(code.Number(word)); got != word {
			t.Errorf("O1: Name of the number of %q is %q", word, got)
		}
		want(strings.ToUpper(word))
		want(strings.ToUpper(word[:1]) + word[1:])
		for i := range word {
			for c := range 256 {
				b := []byte(word)
				b[i] = byte(c)
				want(string(b))
			}
			want(word[:i] + word[i+1:])
			want(word[:i])
			want(word[i:])
		}
		for c := range 256 {
			want(word + string([]byte{byte(c)}))
			want(string([]byte{byte(c)}) + word)
		}
		want(word + word)
		want(strconv.Itoa(op))
	}
	for _, word := range []string{"", " ", "halt", "\x00", "é", "nop", "and", "or", "xor", "goto", "print", "pop", "push 1", "pushload", strings.Repeat("a", 1<<20)} {
		want(word)
	}
}

// numbers are some for A: small ones, and those near the edges.
func numbers() []int64 {
	l := []int64{math.MinInt64, math.MinInt64 + 1, math.MinInt64 + 7, math.MinInt64 + 8, math.MaxInt64, math.MaxInt64 - 1, math.MaxInt64 - 7, math.MaxInt64 - 8}
	for n := int64(-40); n <= 200; n++ {
		l = append(l, n)
	}
	for bit := 8; bit < 63; bit++ {
		l = append(l, 1<<bit-1, 1<<bit, 1<<bit+1, -1<<bit, -1<<bit-1, -1<<bit+1)
	}
	return l
}

// modelEffect is what the chapter says.
func modelEffect(i api.Instr, funcs []api.Routine) string {
	l, ok := lines[i.Op]
	if !ok {
		return "0 0"
	}
	takes := l.takes
	if takes == "?" {
		takes = "0"
		for n, f := range funcs {
			if l.word == "call" && int64(n) == i.A && f.Params > 0 {
				takes = strconv.Itoa(f.Params)
			}
		}
		if l.word != "call" && i.A >= 0 {
			takes = strconv.FormatUint(uint64(i.A)&7, 10)
		}
	}
	return takes + " " + l.puts
}

// TestEffects: O1, every op with many numbers, and functions of all kinds.
func TestEffects(t *testing.T) {
	many := make([]api.Routine, 300)
	for n := range many {
		many[n].Params = n
	}
	for _, funcs := range [][]api.Routine{
		nil, {}, {{Params: 1}}, {{}, {Params: 4}, {Params: 5}, {Params: 100}},
		{{Params: -1}, {Params: math.MinInt}, {Params: math.MaxInt}, {Params: 2, Locals: 1, Name: "f"}, {Locals: 7}}, many,
	} {
		for op := -3; op <= 45; op++ {
			for _, a := range numbers() {
				takes, puts := code.Effect(in(op, a), funcs)
				if got, want := fmt.Sprint(takes, puts), modelEffect(in(op, a), funcs); got != want {
					t.Fatalf("O1: Effect(%d %d), of %d functions: %s, want %s", op, a, len(funcs), got, want)
				}
			}
		}
		for _, op := range []int{math.MinInt, math.MaxInt, 1<<32 + code.Add, 256 + code.Add, -code.Add} {
			if takes, puts := code.Effect(in(op, 1), funcs); takes != 0 || puts != 0 {
				t.Errorf("O1: Effect of the op %d: %d, %d", op, takes, puts)
			}
		}
	}
}

// TestEffectsByHand: O1, those that hang on their A.
func TestEffectsByHand(t *testing.T) {
	funcs := []api.Routine{{Params: 2}, {Params: 0}, {Params: -3}, {Params: math.MaxInt}}
	for _, c := range []struct {
		i           api.Instr
		takes, puts int
	}{
		{in(code.Call, 0), 2, 1}, {in(code.Call, 1), 0, 1}, {in(code.Call, 2), 0, 1}, {in(code.Call, 3), math.MaxInt, 1}, {in(code.Call, 4), 0, 1}, {in(code.Call, -1), 0, 1},
		{in(code.Call, math.MaxInt64), 0, 1}, {in(code.Call, math.MinInt64), 0, 1}, {in(code.Call, 1<<32), 0, 1}, {in(code.Call, 1<<63-1<<32), 0, 1},
		{in(code.Part, 0), 0, 0}, {in(code.Part, 7), 7, 0}, {in(code.Part, 8), 0, 0}, {in(code.Part, 9), 1, 0}, {in(code.Part, -1), 0, 0}, {in(code.Part, -6), 0, 0}, {in(code.Part, math.MaxInt64), 7, 0}, {in(code.Part, math.MinInt64), 0, 0},
		{in(code.Give, 15), 7, 0}, {in(code.Give, 100), 4, 0}, {in(code.Give, -9), 0, 0}, {in(code.Take, 15), 0, 0}, {in(code.Has, 15), 0, 1}, {in(code.Field, 15), 0, 1}, {in(code.Put, 15), 1, 0},
		{in(code.Add, 5), 2, 1}, {in(code.Spawn, 5), 0, 0}, {in(code.Ret, -5), 1, 0}, {in(0), 0, 0}, {in(40), 0, 0}, {in(-1), 0, 0},
	} {
		if takes, puts := code.Effect(c.i, funcs); takes != c.takes || puts != c.puts {
			t.Errorf("O1: Effect(%s %d) = %d, %d, want %d, %d", code.Name(c.i.Op), c.i.A, takes, puts, c.takes, c.puts)
		}
	}
}
