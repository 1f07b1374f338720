package code_test

import (
	"bytes"
	"encoding/binary"
	"math"
	"reflect"
	"runtime"
	"slices"
	"strings"
	"testing"

	"hindcast/api"
	"hindcast/code"
)

// small is a program of a system and a function, and its bytes by hand.
func small() (api.Program, []byte) {
	p := api.Program{
		Systems: []api.System{{With: []int{1, 3}, Reads: []int{2}, Writes: []int{12}, Run: api.Routine{
			Name: "M", Locals: 2, Code: []api.Instr{in(code.Step), in(code.Push, -1), in(code.Put, 96), in(code.Stop)},
		}}},
		Funcs: []api.Routine{{Name: "f", Params: 1, Locals: 1, Code: []api.Instr{in(code.Load, 0), in(code.Ret)}}},
	}
	b := []byte{
		1,                       // systems
		2, 1, 3, 0, 1, 2, 1, 12, // 1: its sets
		1, 'M', 0, 2, 4, // 9: its head
		24, 1, 1, 5, 0xc0, 1, 23, // 14: its code
		1,               // 21: functions
		1, 'f', 1, 1, 2, // 22
		2, 0, 22, // 27
	}
	return p, b
}

// empty has nil for each list without anything in it, as Decode tells them.
func empty(p api.Program) api.Program {
	list := func(l []int) []int { return append([]int(nil), l...) }
	routine := func(r api.Routine) api.Routine {
		r.Code = append([]api.Instr(nil), r.Code...)
		return r
	}
	var q api.Program
	for _, s := range p.Systems {
		q.Systems = append(q.Systems, api.System{With: list(s.With), Without: list(s.Without), Reads: list(s.Reads), Writes: list(s.Writes), Run: routine(s.Run)})
	}
	for _, f := range p.Funcs {
		q.Funcs = append(q.Funcs, routine(f))
	}
	return q
}

// wantProgram holds the bytes of a program that may be written against the model's, and reads them again.
func wantProgram(t *testing.T, p api.Program) {
	t.Helper()
	want := modelBytes(p)
	b, e := code.Encode(p)
	if e != api.OK || !bytes.Equal(b, want) {
		t.Fatalf("O2: Encode of %.300v: %x, %v, want %x", p, b, e, want)
	}
	q, err := code.Decode(b)
	if err != nil || !reflect.DeepEqual(q, empty(p)) {
		t.Fatalf("O2: Decode of %x: %.300v, %v, want %.300v", b, q, err, p)
	}
}

// wantRefused holds that a program may not be written.
func wantRefused(t *testing.T, why string, p api.Program) {
	t.Helper()
	if b, e := code.Encode(p); e != api.ErrCode || b != nil {
		t.Errorf("O2: Encode, %s: %x, %v, want nothing, %v", why, b, e, api.ErrCode)
	}
}

// wantWritten holds what Encode says of a program against the model, whether it may be written or not.
func wantWritten(t *testing.T, why string, p api.Program) {
	t.Helper()
	if modelWritable(p) {
		wantProgram(t, p)
	} else {
		wantRefused(t, why, p)
	}
}

// wantNoProgram holds bytes against a fault at a place.
func wantNoProgram(t *testing.T, b []byte, at int) {
	t.Helper()
	p, err := code.Decode(b)
	wantFault(t, "O2: Decode of "+short(b), err, at)
	if !reflect.DeepEqual(p, api.Program{}) {
		t.Errorf("P2: Decode of %s: %.100v beside an error", short(b), p)
	}
}

func short(b []byte) string {
	s := ""
	for i, c := range b {
		if i == 60 {
			return s + ".."
		}
		s += string("0123456789abcdef"[c>>4]) + string("0123456789abcdef"[c&15]) + " "
	}
	return s
}

// wantBytes holds what Decode says of bytes against the model, and against what must be so of every place.
func wantBytes(t *testing.T, b []byte) {
	t.Helper()
	place := modelPlace(b)
	if place >= 0 {
		wantNoProgram(t, b, place)
		return
	}
	p, err := code.Decode(b)
	if err != nil {
		t.Fatalf("O2: Decode of %s: %v, want a program", short(b), err)
	}
	if again, e := code.Encode(p); e != api.OK || !bytes.Equal(again, b) {
		t.Fatalf("O2: Encode of the program of %s: %s, %v", short(b), short(again), e)
	}
}

// alone is a program of one function.
func alone(f api.Routine) api.Program { return api.Program{Funcs: []api.Routine{f}} }

// system is a program of one system.
func system(s api.System) api.Program { return api.Program{Systems: []api.System{s}} }

// steps are so many instructions.
func steps(n int) []api.Instr { return slices.Repeat([]api.Instr{in(code.Step)}, n) }

// TestBytes: O2, byte by byte.
func TestBytes(t *testing.T) {
	p, want := small()
	if b, e := code.Encode(p); e != api.OK || !bytes.Equal(b, want) {
		t.Errorf("O2: Encode: %x, %v, want %x", b, e, want)
	}
	if q, err := code.Decode(want); err != nil || !reflect.DeepEqual(q, p) {
		t.Errorf("O2: Decode: %v, %v, want %v", q, err, p)
	}
	for _, c := range []struct {
		p    api.Program
		want string
	}{
		{api.Program{}, "\x00\x00"},
		{api.Program{Systems: []api.System{}, Funcs: []api.Routine{}}, "\x00\x00"},
		{alone(api.Routine{Name: "f"}), "\x00\x01\x01f\x00\x00\x00"},
		{alone(api.Routine{Name: "\x00\xff\n", Params: 4, Locals: 32}), "\x00\x01\x03\x00\xff\n\x04\x20\x00"},
		{alone(api.Routine{Name: "f", Code: []api.Instr{in(code.Push, math.MinInt64)}}), "\x00\x01\x01f\x00\x00\x01\x01" + strings.Repeat("\xff", 9) + "\x01"},
		{alone(api.Routine{Name: "f", Code: []api.Instr{in(code.Push, math.MaxInt64), in(code.Drop)}}), "\x00\x01\x01f\x00\x00\x02\x01\xfe" + strings.Repeat("\xff", 8) + "\x01\x27"},
		{alone(api.Routine{Name: "f", Code: steps(200)}), "\x00\x01\x01f\x00\x00\xc8\x01" + strings.Repeat("\x18", 200)},
		{system(api.System{With: []int{1}, Without: []int{2, 3}, Reads: []int{4, 5, 6}, Writes: []int{7, 8, 9, 10}, Run: api.Routine{Name: "S"}}), "\x01\x01\x01\x02\x02\x03\x03\x04\x05\x06\x04\x07\x08\x09\x0a\x01S\x00\x00\x00\x00"},
		{system(api.System{Run: api.Routine{Name: "S", Params: 3, Locals: 3}}), "\x01\x00\x00\x00\x00\x01S\x03\x03\x00\x00"},
	} {
		if b, e := code.Encode(c.p); e != api.OK || string(b) != c.want {
			t.Errorf("O2: Encode of %v: %x, %v, want %x", c.p, b, e, c.want)
		}
		if q, err := code.Decode([]byte(c.want)); err != nil || !reflect.DeepEqual(q, empty(c.p)) {
			t.Errorf("O2: Decode of %x: %v, %v, want %v", c.want, q, err, c.p)
		}
	}
}

// TestEmptyLists: O2, those without anything in them are nil.
func TestEmptyLists(t *testing.T) {
	none, err := code.Decode([]byte{0, 0})
	if err != nil || none.Systems != nil || none.Funcs != nil {
		t.Errorf("O2: Decode of 00 00: %v, %v", none, err)
	}
	p := api.Program{Systems: []api.System{{With: []int{}, Without: []int{}, Reads: []int{}, Writes: []int{}, Run: api.Routine{Name: "S", Code: []api.Instr{}}}}, Funcs: []api.Routine{{Name: "f", Code: []api.Instr{}}}}
	b, _ := code.Encode(p)
	q, err := code.Decode(b)
	if err != nil || len(q.Systems) != 1 || len(q.Funcs) != 1 {
		t.Fatalf("O2: Decode: %v, %v", q, err)
	}
	if s := q.Systems[0]; s.With != nil || s.Without != nil || s.Reads != nil || s.Writes != nil || s.Run.Code != nil || q.Funcs[0].Code != nil {
		t.Errorf("O2: Decode tells lists of nothing that are not nil")
	}
}

// TestSets: O2, all short lists of kinds, in each of the four sets.
func TestSets(t *testing.T) {
	lists := [][]int{nil}
	for begin, length := 0, 0; length < 3; length++ {
		end := len(lists)
		for ; begin < end; begin++ {
			for kind := -1; kind <= 14; kind++ {
				lists = append(lists, append(slices.Clone(lists[begin]), kind))
			}
		}
	}
	all := []int{1, 2, 3, 4, 5, 6, 7, 8, 9, 10, 11, 12}
	lists = append(lists, all, append(slices.Clone(all), 13), append(slices.Clone(all), 12), append([]int{0}, all...), append([]int{1}, all...), all[:11], all[1:], []int{math.MinInt}, []int{math.MaxInt}, []int{1, math.MaxInt}, []int{1, math.MinInt}, []int{1<<8 + 1}, slices.Repeat(all, 1000))
	for _, list := range lists {
		for which := range 4 {
			s := api.System{Run: api.Routine{Name: "S"}}
			*[]*[]int{&s.With, &s.Without, &s.Reads, &s.Writes}[which] = list
			wantWritten(t, "a set that is none", system(s))
		}
	}
	wantProgram(t, system(api.System{With: all, Without: all, Reads: all, Writes: all, Run: api.Routine{Name: "S"}}))
}

// TestHeads: O2, names of each length, and all small numbers of Params and Locals, of systems and functions.
func TestHeads(t *testing.T) {
	var heads []api.Routine
	for params := -2; params <= 6; params++ {
		for locals := -2; locals <= 40; locals++ {
			heads = append(heads, api.Routine{Name: "f", Params: params, Locals: locals})
		}
	}
	for _, n := range []int{math.MinInt, math.MaxInt, 1 << 8, 1<<8 + 2, 1<<32 + 2, -1 << 8} {
		heads = append(heads, api.Routine{Name: "f", Params: n, Locals: 4}, api.Routine{Name: "f", Params: 2, Locals: n}, api.Routine{Name: "f", Params: n, Locals: n})
	}
	for size := range 40 {
		heads = append(heads, api.Routine{Name: strings.Repeat("n", size)}, api.Routine{Name: strings.Repeat("\x00", size)}, api.Routine{Name: strings.Repeat("\xff", size)}, api.Routine{Name: strings.Repeat("é", size)})
	}
	for c := range 256 {
		heads = append(heads, api.Routine{Name: string([]byte{byte(c)})}, api.Routine{Name: string([]byte{'a', byte(c), byte(c)})})
	}
	heads = append(heads, api.Routine{Name: strings.Repeat("n", 1<<20)})
	for _, r := range heads {
		wantWritten(t, "a head that may not be", alone(r))
		wantWritten(t, "a head that may not be", system(api.System{Run: r}))
		wantWritten(t, "a head that may not be", api.Program{Systems: []api.System{{Run: api.Routine{Name: "S"}}}, Funcs: []api.Routine{{Name: "f"}, r}})
	}
}

// TestInstructions: O2, every op, those that there are not too, with many numbers.
func TestInstructions(t *testing.T) {
	var all []api.Instr
	for op := -3; op <= 45; op++ {
		for _, a := range numbers() {
			all = append(all, in(op, a))
		}
	}
	for _, op := range []int{math.MinInt, math.MaxInt, 1 << 8, 1<<8 + 1, 1<<32 + 1, 1 << 62} {
		all = append(all, in(op), in(op, 1))
	}
	for _, i := range all {
		wantWritten(t, "an instruction that is none", alone(api.Routine{Name: "f", Code: []api.Instr{i}}))
	}
	for _, i := range []api.Instr{in(0), in(40), in(code.Add, 1), in(code.Drop, -1), in(code.Stop, math.MinInt64)} {
		r := api.Routine{Name: "r", Code: []api.Instr{in(code.Step), in(code.Jump, -7), i, in(code.Stop)}}
		wantRefused(t, "an instruction that is none", alone(r))
		wantRefused(t, "an instruction that is none", system(api.System{Run: r}))
		r.Code = append(steps(1999), i)
		wantRefused(t, "an instruction that is none", alone(r))
	}
}

// TestManyRoutines: O2, at most 16 systems and 16 functions.
func TestManyRoutines(t *testing.T) {
	for _, systems := range []int{0, 1, 15, 16, 17, 18, 200, 70000} {
		for _, funcs := range []int{0, 1, 15, 16, 17, 18, 200, 70000} {
			wantWritten(t, "too many routines", api.Program{
				Systems: slices.Repeat([]api.System{{With: []int{2}, Run: api.Routine{Name: "S"}}}, systems),
				Funcs:   slices.Repeat([]api.Routine{{Name: "f"}}, funcs),
			})
		}
	}
	long := func(n int) string { return string(binary.AppendUvarint(nil, uint64(n))) }
	one, two := "\x00\x00\x00\x00\x01S\x00\x00\x00", "\x01f\x00\x00\x00"
	for _, n := range []int{17, 18, 127, 128, 1 << 20, math.MaxInt} {
		wantNoProgram(t, []byte(long(n)+strings.Repeat(one, min(n, 1000))+"\x00"), 0)
		wantNoProgram(t, []byte("\x00"+long(n)+strings.Repeat(two, min(n, 1000))), 1)
		wantNoProgram(t, []byte("\x10"+strings.Repeat(one, 16)+long(n)+strings.Repeat(two, min(n, 1000))), 1+16*9)
	}
}

// TestMuchCode: O2, at most 2000 instructions in all.
func TestMuchCode(t *testing.T) {
	f := func(n int) api.Routine { return api.Routine{Name: "f", Code: steps(n)} }
	s := func(n int) api.System { return api.System{Run: f(n)} }
	wantProgram(t, alone(f(2000)))
	wantRefused(t, "2001 instructions", alone(f(2001)))
	wantProgram(t, system(s(2000)))
	wantRefused(t, "2001 instructions", system(s(2001)))
	wantRefused(t, "a million instructions", system(s(1000000)))
	for _, c := range []struct{ systems, funcs []int }{
		{[]int{1000, 1000}, nil}, {[]int{1000, 1001}, nil}, {nil, []int{1000, 1000}}, {nil, []int{1001, 1000}}, {[]int{1000}, []int{1000}}, {[]int{1000}, []int{1001}}, {[]int{2000}, []int{1}}, {[]int{2000}, []int{0, 0}}, {[]int{0, 2000, 0}, []int{0, 0, 1}}, {[]int{0, 0}, []int{1999, 0, 1}}, {[]int{1}, []int{2000}}, {[]int{2000, 2000}, []int{2000}},
		{slices.Repeat([]int{62}, 16), slices.Repeat([]int{63}, 16)}, {slices.Repeat([]int{63}, 16), slices.Repeat([]int{63}, 16)}, {slices.Repeat([]int{63}, 16), slices.Repeat([]int{62}, 16)},
	} {
		var p api.Program
		for _, n := range c.systems {
			p.Systems = append(p.Systems, s(n))
		}
		for _, n := range c.funcs {
			p.Funcs = append(p.Funcs, f(n))
		}
		wantWritten(t, "too much code", p)
		wantBytes(t, modelBytes(p))
	}
	widest := make([]api.Instr, 2000)
	for i := range widest {
		widest[i] = in(code.Push, math.MinInt64+int64(i))
	}
	wantProgram(t, alone(api.Routine{Name: "f", Code: widest}))
}

// TestCodeAhead: O2, a number of instructions is looked at with those ahead, and is wrong at its own place.
func TestCodeAhead(t *testing.T) {
	head := []byte{0, 2, 1, 'f', 0, 0}
	first := func(n int) []byte {
		b := binary.AppendUvarint(slices.Clone(head), uint64(n))
		b = append(b, bytes.Repeat([]byte{code.Step}, n)...)
		return append(b, 1, 'g', 0, 0)
	}
	for n := range 2001 {
		if n > 3 && n < 1800 && n%97 != 0 {
			continue
		}
		b := first(n)
		wantNoProgram(t, binary.AppendUvarint(slices.Clone(b), uint64(2001-n)), len(b))
		wantNoProgram(t, append(binary.AppendUvarint(slices.Clone(b), uint64(2001-n)), bytes.Repeat([]byte{code.Step}, 2001-n)...), len(b))
		right := append(binary.AppendUvarint(slices.Clone(b), uint64(2000-n)), bytes.Repeat([]byte{code.Step}, 2000-n)...)
		if p, err := code.Decode(right); err != nil || len(p.Funcs) != 2 || len(p.Funcs[0].Code)+len(p.Funcs[1].Code) != 2000 {
			t.Errorf("O2: Decode of 2000 instructions: %v", err)
		}
		wantNoProgram(t, append(right, 0), len(right))
	}
	for _, n := range []uint64{2001, 2048, 1 << 16, 1 << 31, 1 << 32, 1<<32 + 1, 1 << 63, 1<<63 + 1, 1<<64 - 1} {
		wantNoProgram(t, binary.AppendUvarint(slices.Clone(head), n), len(head))
		wantNoProgram(t, append(binary.AppendUvarint(slices.Clone(head), n), bytes.Repeat([]byte{code.Step}, 3000)...), len(head))
	}
}

// TestFaultPlaces: O2, of bytes that are no program's the first place, by hand.
func TestFaultPlaces(t *testing.T) {
	for _, c := range []struct {
		b  string
		at int
	}{
		{"", 0}, {"\x80", 0}, {"\x80\x00", 0}, {"\x11", 0}, {"\x81\x00\x00", 0}, {"\xff\xff\xff\xff\xff\xff\xff\xff\xff\x01", 0}, {"\xff\xff\xff\xff\xff\xff\xff\xff\xff\x02", 0},
		{"\x00", 1}, {"\x00\x80", 1}, {"\x00\x11", 1}, {"\x00\x80\x00", 1}, {"\x00\x00\x00", 2}, {"\x00\x00\xff\xff", 2},
		// sets
		{"\x01", 1}, {"\x01\x0d", 1}, {"\x01\x0d\x01\x02", 1}, {"\x01\x01", 2}, {"\x01\x01\x00", 2}, {"\x01\x01\x0d", 2}, {"\x01\x01\x80\x00", 2}, {"\x01\x01\x80\x80\x80\x80\x80\x80\x80\x80\x80\x01", 2}, {"\x01\x02\x03", 3}, {"\x01\x02\x03\x03", 3}, {"\x01\x02\x03\x02", 3}, {"\x01\x02\x03\x0d", 3}, {"\x01\x03\x01\x05\x04", 4},
		{"\x01\x0c\x01\x02\x03\x04\x05\x06\x07\x08\x09\x0a\x0b\x0c", 14}, {"\x01\x0c\x01\x02\x03\x04\x05\x06\x07\x08\x09\x0a\x0b\x0d", 13},
		// A kind is not looked at with how many are to come: that there is no room for them shows later.
		{"\x01\x0c\x02", 3}, {"\x01\x02\x0c", 3}, {"\x01\x02\x0c\x0c", 3}, {"\x01\x02\x0c\x0d", 3}, {"\x01\x0c\x0b\x0c\x0d", 4}, {"\x01\x03\x0a\x0b\x0b", 4},
		{"\x01\x00\x0d", 2}, {"\x01\x00\x00\x0d", 3}, {"\x01\x00\x00\x00\x0d", 4}, {"\x01\x01\x05\x01\x05\x01\x05\x02\x05\x05", 9}, {"\x01\x01\x0c\x01\x01\x00\x00\x00", 7},
		// names
		{"\x01\x00\x00\x00\x00", 5}, {"\x01\x00\x00\x00\x00\x00", 5}, {"\x01\x00\x00\x00\x00\x01", 5}, {"\x01\x00\x00\x00\x00\x11" + strings.Repeat("n", 17), 5}, {"\x01\x00\x00\x00\x00\x10" + strings.Repeat("n", 15), 5}, {"\x01\x00\x00\x00\x00\x10" + strings.Repeat("n", 16), 22},
		{"\x00\x01", 2}, {"\x00\x01\x00", 2}, {"\x00\x01\x00\x00\x00\x00", 2}, {"\x00\x01\x03ab", 2}, {"\x00\x01\x80\x00a", 2}, {"\x00\x01\x81\x00a", 2}, {"\x00\x01\x80\x01" + strings.Repeat("n", 128), 2}, {"\x00\x01\x7f" + strings.Repeat("n", 127), 2}, {"\x00\x01\x11" + strings.Repeat("n", 200), 2}, {"\x00\x01\xff\xff\xff\xff\xff\xff\xff\xff\xff\x01abc", 2},
		// Params and Locals
		{"\x00\x01\x01f", 4}, {"\x00\x01\x01f\x05", 4}, {"\x00\x01\x01f\x05\x05\x00", 4}, {"\x00\x01\x01f\x80", 4}, {"\x00\x01\x01f\x84\x00\x04\x00", 4}, {"\x00\x01\x01f\x04", 5}, {"\x00\x01\x01f\x04\x03", 5}, {"\x00\x01\x01f\x01\x00", 5}, {"\x00\x01\x01f\x00\x21", 5}, {"\x00\x01\x01f\x00\xa0\x00", 5}, {"\x00\x01\x01f\x04\x04", 6}, {"\x00\x01\x01f\x00\x20", 6},
		// code
		{"\x00\x01\x01f\x00\x00\xd1\x0f", 6}, {"\x00\x01\x01f\x00\x00\xd0\x0f", 8}, {"\x00\x01\x01f\x00\x00\x01", 7}, {"\x00\x01\x01f\x00\x00\x01\x00", 7}, {"\x00\x01\x01f\x00\x00\x01\x28", 7}, {"\x00\x01\x01f\x00\x00\x01\x80", 7}, {"\x00\x01\x01f\x00\x00\x01\x86\x00", 7}, {"\x00\x01\x01f\x00\x00\x01\x86\x02", 7},
		{"\x00\x01\x01f\x00\x00\x01\x01", 8}, {"\x00\x01\x01f\x00\x00\x01\x01\x80", 8}, {"\x00\x01\x01f\x00\x00\x01\x01\x80\x00", 8}, {"\x00\x01\x01f\x00\x00\x01\x01\xff\xff\xff\xff\xff\xff\xff\xff\xff\x02", 8}, {"\x00\x01\x01f\x00\x00\x01\x01\x80\x01\x00", 10}, {"\x00\x01\x01f\x00\x00\x02\x06", 8}, {"\x00\x01\x01f\x00\x00\x02\x06\x00", 8}, {"\x00\x01\x01f\x00\x00\x02\x01\x06", 9}, {"\x00\x01\x01f\x00\x00\x01\x06\x00", 8},
		// the second of two, and what stands behind all of it
		{"\x00\x02\x01f\x00\x00\x00", 7}, {"\x00\x02\x01f\x00\x00\x00\x00", 7}, {"\x00\x02\x01f\x00\x00\x00\x01g\x05", 9}, {"\x00\x01\x01f\x00\x00\x00\x01g\x00\x00\x00", 7}, {"\x02\x00\x00\x00\x00\x01S\x00\x00\x00\x00\x00\x00\x00\x01T\x00\x00\x00", 19}, {"\x02\x00\x00\x00\x00\x01S\x00\x00\x00\x00\x0d", 11},
	} {
		wantNoProgram(t, []byte(c.b), c.at)
		if got := modelPlace([]byte(c.b)); got != c.at {
			t.Errorf("the model tells %d of %s, want %d", got, short([]byte(c.b)), c.at)
		}
	}
}

// TestCutShort: O2, the fault of a program without its end is where the thing begins that is missing.
func TestCutShort(t *testing.T) {
	_, b := small()
	// where each number and text of it begins
	begins := []int{0, 1, 2, 3, 4, 5, 6, 7, 8, 9, 11, 12, 13, 14, 15, 16, 17, 18, 20, 21, 22, 24, 25, 26, 27, 28, 29}
	for n := range b {
		at := 0
		for _, place := range begins {
			if place <= n {
				at = place
			}
		}
		wantNoProgram(t, b[:n], at)
	}
	for c := range 256 {
		wantNoProgram(t, append(slices.Clone(b), byte(c)), len(b))
	}
	wantNoProgram(t, append(slices.Clone(b), b...), len(b))
	wantNoProgram(t, append(slices.Clone(b), make([]byte, 1<<20)...), len(b))
}

// TestEveryByte: O2, each byte of some programs turned to each other one, left out, and put in.
func TestEveryByte(t *testing.T) {
	_, one := small()
	two := []byte("\x02\x01\x01\x02\x02\x03\x03\x04\x05\x06\x04\x07\x08\x09\x0a\x02ST\x01\x20\x03\x01\x80\x01\x06\x13\x01\x00\x00\x00\x01\x0c\x01T\x04\x04\x00\x02\x01f\x00\x00\x01\x27\x01g\x02\x03\x01\x15\x00")
	if _, err := code.Decode(two); err != nil {
		t.Fatalf("O2: Decode of %x: %v", two, err)
	}
	for _, b := range [][]byte{{0, 0}, one, two} {
		wantBytes(t, b)
		for i := range b {
			for c := range 256 {
				turned := slices.Clone(b)
				turned[i] = byte(c)
				wantBytes(t, turned)
				wantBytes(t, slices.Insert(slices.Clone(b), i, byte(c)))
				if i+1 < len(b) {
					turned[i+1] ^= 0x80
					wantBytes(t, turned)
				}
			}
			wantBytes(t, slices.Delete(slices.Clone(b), i, i+1))
		}
	}
}

// TestShortBytes: O2, all bytes of length 2 at most, and longer ones of the bytes that begin things.
func TestShortBytes(t *testing.T) {
	for a := range 256 {
		wantBytes(t, []byte{byte(a)})
		for b := range 256 {
			wantBytes(t, []byte{byte(a), byte(b)})
		}
	}
	var grow func(b []byte, left int)
	grow = func(b []byte, left int) {
		wantBytes(t, b)
		if left == 0 {
			return
		}
		for _, c := range []byte{0, 1, 2, 6, 0x80} {
			grow(append(slices.Clone(b), c), left-1)
		}
	}
	grow([]byte{0}, 6)
	grow([]byte{1, 0, 0}, 5)
	grow([]byte{0, 1, 1, 'f'}, 6)
	grow([]byte{0, 1, 1, 'f', 0, 0, 2}, 6)
	grow([]byte{1, 0, 0, 0, 0, 1, 'S', 0, 0}, 6)
}

// TestLongNames: P1, what is refused takes no memory, whatever length it tells.
func TestLongNames(t *testing.T) {
	long := make([]byte, 1<<24)
	head := binary.AppendUvarint([]byte{0, 1}, uint64(len(long)))
	for _, b := range [][]byte{append(head, long...), append([]byte{0, 0}, long...)} {
		var before, behind runtime.MemStats
		runtime.ReadMemStats(&before)
		_, err := code.Decode(b)
		runtime.ReadMemStats(&behind)
		wantFault(t, "O2: Decode of "+short(b), err, 2)
		if took := behind.TotalAlloc - before.TotalAlloc; took > 1<<20 {
			t.Errorf("P1: Decode of %s: %d bytes of memory", short(b), took)
		}
	}
}
