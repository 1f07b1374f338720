package code_test

import (
	"bytes"
	"errors"
	"fmt"
	"math/rand"
	"reflect"
	"slices"
	"sync"
	"testing"

	"hindcast/api"
	"hindcast/code"
)

// junk stands in the room behind lists, and must stay there.
const junk = -77

// roomy gives a program whose lists have room behind them, with junk in it.
func roomy(p api.Program) api.Program {
	list := func(l []int) []int { return append(slices.Clone(l), junk, junk)[:len(l)] }
	routine := func(r api.Routine) api.Routine {
		r.Code = append(slices.Clone(r.Code), in(junk), in(junk))[:len(r.Code)]
		return r
	}
	var q api.Program
	for _, s := range p.Systems {
		q.Systems = append(q.Systems, api.System{With: list(s.With), Without: list(s.Without), Reads: list(s.Reads), Writes: list(s.Writes), Run: routine(s.Run)})
	}
	for _, f := range p.Funcs {
		q.Funcs = append(q.Funcs, routine(f))
	}
	q.Systems = append(q.Systems, api.System{Run: api.Routine{Params: junk}})[:len(q.Systems)]
	q.Funcs = append(q.Funcs, api.Routine{Params: junk})[:len(q.Funcs)]
	return q
}

// lists are all of a program's lists, but those of systems and functions: of kinds, and of instructions.
func lists(p api.Program) ([][]int, [][]api.Instr) {
	var kinds [][]int
	var codes [][]api.Instr
	for _, s := range p.Systems {
		kinds = append(kinds, s.With, s.Without, s.Reads, s.Writes)
		codes = append(codes, s.Run.Code)
	}
	for _, f := range p.Funcs {
		codes = append(codes, f.Code)
	}
	return kinds, codes
}

// wantRoom holds that the junk behind a program's lists is there still.
func wantRoom(t *testing.T, p api.Program) {
	t.Helper()
	kinds, codes := lists(p)
	for _, l := range kinds {
		if room := l[len(l) : len(l)+2]; room[0] != junk || room[1] != junk {
			t.Errorf("P3: something is written behind a list of kinds: %v", room)
		}
	}
	for _, l := range codes {
		if room := l[len(l) : len(l)+2]; room[0] != in(junk) || room[1] != in(junk) {
			t.Errorf("P3: something is written behind instructions: %v", room)
		}
	}
	if p.Systems[:len(p.Systems)+1][len(p.Systems)].Run.Params != junk || p.Funcs[:len(p.Funcs)+1][len(p.Funcs)].Params != junk {
		t.Errorf("P3: something is written behind the routines")
	}
}

// overwrite writes into all of a program and into the room behind its lists.
func overwrite(p api.Program) {
	kinds, codes := lists(p)
	for _, l := range kinds {
		l = l[:cap(l)]
		for i := range l {
			l[i] = -5
		}
	}
	for _, l := range codes {
		l = l[:cap(l)]
		for i := range l {
			l[i] = in(-5, -5)
		}
	}
	clear(p.Systems[:cap(p.Systems)])
	clear(p.Funcs[:cap(p.Funcs)])
}

// TestNothingIsWrittenInto: P3, a program and a routine that are handed in stay as they are, with the room behind their lists, be they refused or not.
func TestNothingIsWrittenInto(t *testing.T) {
	for seed := range 300 {
		r := rand.New(rand.NewSource(int64(seed)))
		p := growProgram(r)
		if seed%2 == 1 {
			spoil(r, &p)
		}
		given := roomy(p)
		want := empty(given)
		code.Encode(given)
		for _, f := range given.Funcs {
			code.List(f)
			for _, i := range f.Code {
				code.Effect(i, given.Funcs)
			}
		}
		if !reflect.DeepEqual(empty(given), want) {
			t.Fatalf("P3: a program that was handed in has become %v, it was %v", given, want)
		}
		wantRoom(t, given)
	}
}

// TestBytesStay: P3, bytes that are handed in stay as they are, with the room behind them.
func TestBytesStay(t *testing.T) {
	for seed := range 300 {
		r := rand.New(rand.NewSource(int64(seed)))
		b := modelBytes(growProgram(r))
		if seed%2 == 1 {
			b = spoilBytes(r, b)
		}
		given := append(slices.Clone(b), "room behind"...)
		kept := bytes.Clone(given)
		code.Decode(given[:len(b)])
		if !bytes.Equal(given, kept) {
			t.Fatalf("P3: bytes that were handed in have become %x", given)
		}
	}
}

// TestAnswersAreNewMemory: P3, what Encode and Decode answer is the caller's, who may write into it, and shares nothing.
func TestAnswersAreNewMemory(t *testing.T) {
	for seed := range 300 {
		p := growProgram(rand.New(rand.NewSource(int64(seed))))
		kept := modelBytes(p)
		one, _ := code.Encode(p)
		two, _ := code.Encode(p)
		one = one[:cap(one)]
		for i := range one {
			one[i] ^= 0xff
		}
		if !bytes.Equal(two, kept) {
			t.Fatalf("P3: two answers of Encode share memory")
		}
		first, _ := code.Decode(two)
		second, _ := code.Decode(two)
		overwrite(first)
		if !reflect.DeepEqual(second, empty(p)) || !bytes.Equal(two, kept) {
			t.Fatalf("P3: two answers of Decode share memory, or one with the bytes")
		}
		for i := range two {
			two[i] ^= 0xff
		}
		if !reflect.DeepEqual(second, empty(p)) {
			t.Fatalf("P3: what Decode answered hangs on the bytes still")
		}
		third, _ := code.Encode(second)
		overwrite(second)
		if !bytes.Equal(third, kept) {
			t.Fatalf("P3: what Encode answered hangs on the program still")
		}
	}
}

// TestListsShareNothing: P3, who writes into one list of an answer, and behind it, writes into no other one.
func TestListsShareNothing(t *testing.T) {
	for seed := range 100 {
		p := growProgram(rand.New(rand.NewSource(int64(seed))))
		b := modelBytes(p)
		got, err := code.Decode(b)
		if err != nil {
			t.Fatalf("O2: Decode: %v", err)
		}
		kinds, codes := lists(got)
		for n, l := range kinds {
			l = l[:cap(l)]
			for i := range l {
				l[i] = 1000 + n
			}
		}
		for n, l := range codes {
			l = l[:cap(l)]
			for i := range l {
				l[i] = in(1000 + n)
			}
		}
		for n, l := range kinds {
			for _, x := range l {
				if x != 1000+n {
					t.Fatalf("P3: two lists of kinds share memory")
				}
			}
		}
		for n, l := range codes {
			for _, x := range l {
				if x != in(1000+n) {
					t.Fatalf("P3: two lists of instructions share memory")
				}
			}
		}
	}
	_, s := all()
	one, _ := code.Read(s)
	two, _ := code.Read(s)
	clear(one.Code[:cap(one.Code)])
	if code.List(two) != s {
		t.Errorf("P3: two answers of Read share memory")
	}
}

// TestTablesStay: P3, P4, what is done with answers changes nothing of what is answered later.
func TestTablesStay(t *testing.T) {
	r, s := all()
	got, _ := code.Read(s)
	clear(got.Code)
	text := []byte(code.List(r))
	clear(text)
	TestNames(t)
	wantList(t, r, s)
}

// TestFaultsAreNewMemory: P3, a fault is the caller's.
func TestFaultsAreNewMemory(t *testing.T) {
	for what, ask := range map[string]func() error{
		"Decode": func() error { _, err := code.Decode([]byte{0, 0, 0}); return err },
		"Read":   func() error { _, err := code.Read("f 0 0\nx\n"); return err },
		"head":   func() error { _, err := code.Read(""); return err },
	} {
		var one, two *api.Fault
		if !errors.As(ask(), &one) || !errors.As(ask(), &two) {
			t.Fatalf("P5: %s: no fault", what)
		}
		want := *two
		*one = api.Fault{At: -1, Err: -1}
		var three *api.Fault
		if !errors.As(ask(), &three) || *two != want || *three != want {
			t.Errorf("P3: %s: faults share memory", what)
		}
	}
}

// told is everything that the calls say of a program and its bytes.
func told(p api.Program) string {
	b, e := code.Encode(p)
	q, err := code.Decode(b)
	_, short := code.Decode(b[:len(b)/2])
	s := fmt.Sprint(b, e, q, err, short)
	for _, f := range p.Funcs {
		text := code.List(f)
		r, err := code.Read(text)
		s += fmt.Sprint(text, r, err)
		for _, i := range f.Code {
			takes, puts := code.Effect(i, p.Funcs)
			s += fmt.Sprint(code.Name(i.Op), code.Number(code.Name(i.Op)), takes, puts)
		}
	}
	return s
}

// TestSideBySide: P4, what a call answers hangs on its arguments alone, whatever was asked ahead of it or beside it.
func TestSideBySide(t *testing.T) {
	var programs []api.Program
	var want []string
	for seed := range 20 {
		r := rand.New(rand.NewSource(int64(seed)))
		p := growProgram(r)
		if seed%4 == 3 {
			spoil(r, &p)
		}
		programs = append(programs, p)
		want = append(want, told(p))
	}
	got := make([]string, 8*len(programs))
	var wait sync.WaitGroup
	for i := range got {
		wait.Go(func() { got[i] = told(programs[i%len(programs)]) })
	}
	wait.Wait()
	for i, s := range got {
		if s != want[i%len(want)] {
			t.Fatalf("P4: another answer beside other calls:\n%.300s, want\n%.300s", s, want[i%len(want)])
		}
	}
}
