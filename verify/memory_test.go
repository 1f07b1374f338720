package verify_test

import (
	"errors"
	"fmt"
	"math/rand"
	"reflect"
	"slices"
	"sync"
	"testing"

	"hindcast/api"
	"hindcast/code"
	"hindcast/verify"
)

// junk stands in the room behind lists, and must stay there.
const junk = -77

// roomy gives a list with room behind it, with junk in it.
func roomy[T any](list []T, junk T) []T {
	return append(slices.Clone(list), junk, junk, junk)[:len(list)]
}

// roomyProgram gives a program all of whose lists have room behind them.
func roomyProgram(p api.Program) api.Program {
	routine := func(r api.Routine) api.Routine {
		r.Code = roomy(r.Code, api.Instr{Op: junk})
		return r
	}
	q := api.Program{Systems: roomy(p.Systems, api.System{Run: api.Routine{Params: junk}}), Funcs: roomy(p.Funcs, api.Routine{Params: junk})}
	for i, s := range q.Systems {
		q.Systems[i] = api.System{With: roomy(s.With, junk), Without: roomy(s.Without, junk), Reads: roomy(s.Reads, junk), Writes: roomy(s.Writes, junk), Run: routine(s.Run)}
	}
	for i, f := range q.Funcs {
		q.Funcs[i] = routine(f)
	}
	return q
}

func roomyKinds(kinds []api.Kind) []api.Kind {
	list := roomy(kinds, api.Kind{Name: "junk"})
	for i, k := range list {
		list[i].Fields = roomy(k.Fields, "junk")
	}
	return list
}

// whole is a program and kinds, with the room behind their lists.
func whole(p api.Program, kinds []api.Kind) string {
	text := ""
	for _, s := range p.Systems[:cap(p.Systems)] {
		text += fmt.Sprint(s.With[:cap(s.With)], s.Without[:cap(s.Without)], s.Reads[:cap(s.Reads)], s.Writes[:cap(s.Writes)], s.Run.Name, s.Run.Params, s.Run.Locals, s.Run.Code[:cap(s.Run.Code)])
	}
	for _, f := range p.Funcs[:cap(p.Funcs)] {
		text += fmt.Sprint(f.Name, f.Params, f.Locals, f.Code[:cap(f.Code)])
	}
	for _, k := range kinds[:cap(kinds)] {
		text += fmt.Sprint(k.Name, k.Fields[:cap(k.Fields)])
	}
	return text
}

// TestNothingIsWrittenInto: P3, programs and kinds that are handed in stay as they are, with the room behind their lists, be they taken or not.
func TestNothingIsWrittenInto(t *testing.T) {
	for seed := range 1000 {
		r := rand.New(rand.NewSource(int64(seed)))
		p, list := grow(r)
		for range seed % 3 {
			spoil(r, &p)
		}
		if seed%20 == 7 {
			list[0].Name = ""
		}
		p, list = roomyProgram(p), roomyKinds(list)
		before := whole(p, list)
		verify.Verify(p, list)
		for _, x := range modelRoutines(p) {
			verify.Depths(p, x.Routine)
		}
		if whole(p, list) != before {
			t.Fatalf("P3: what was handed in is another one: %s", shown(p))
		}
	}
}

// TestDepthsAreNewMemory: P3, what Depths answers is the caller's, with the room behind it.
func TestDepthsAreNewMemory(t *testing.T) {
	p := systems(t, "step; field 8; field 16; add; put 8; stop; add")
	r := roomyProgram(p).Systems[0].Run
	want := []int{0, 0, 1, 2, 1, 0, -1}
	one, err := verify.Depths(p, r)
	two, other := verify.Depths(p, r)
	if err != nil || other != nil || !slices.Equal(one, want) || !slices.Equal(two, want) {
		t.Fatalf("V2: %v, %v, %v, %v", one, err, two, other)
	}
	one = one[:cap(one)]
	for i := range one {
		one[i] = junk
	}
	three, _ := verify.Depths(p, r)
	if !slices.Equal(two, want) || !slices.Equal(three, want) || words(r.Code) != words(p.Systems[0].Run.Code) {
		t.Errorf("P3: what is written into depths stands elsewhere, too: %v, %v", two, three)
	}
	r.Code[0] = api.Instr{Op: code.Add}
	if !slices.Equal(two, want) {
		t.Errorf("P3: depths hang on the code still: %v", two)
	}
}

// TestFaultsAreNewMemory: P3 and P5, a fault is the caller's, is an *api.Fault itself, and wraps its number.
func TestFaultsAreNewMemory(t *testing.T) {
	for what, ask := range map[string]func() error{
		"kinds":  func() error { return verify.Verify(api.Program{}, nil) },
		"code":   func() error { return verify.Verify(api.Program{Funcs: make([]api.Routine, 1)}, kinds()) },
		"kind":   func() error { return verify.Verify(systems(t, "stop"), kinds()[:1]) },
		"access": func() error { return verify.Verify(systems(t, "stop; ret"), kinds()) },
		"jump":   func() error { return verify.Verify(systems(t, "part 24; spawn; jump 1"), kinds()) },
		"loop":   func() error { return verify.Verify(with(t, systems(t, "stop"), "0: call 0; ret"), kinds()) },
		"stack":  func() error { return verify.Verify(systems(t, "step; add; stop"), kinds()) },
		"end":    func() error { return verify.Verify(systems(t, "step; jump 1"), kinds()) },
		"depths": func() error {
			list, err := verify.Depths(api.Program{}, api.Routine{Code: instrs(t, "step; add; stop")})
			if list != nil {
				t.Errorf("P2: an error, and %v", list)
			}
			return err
		},
		"nothing": func() error { _, err := verify.Depths(api.Program{}, api.Routine{}); return err },
		"long": func() error {
			_, err := verify.Depths(api.Program{}, api.Routine{Code: make([]api.Instr, 2001)})
			return err
		},
	} {
		one, isFault := ask().(*api.Fault)
		two, isOther := ask().(*api.Fault)
		if !isFault || !isOther {
			t.Fatalf("P5: %s: no fault: %v", what, ask())
		}
		want := *two
		*one = api.Fault{At: -1, Err: -1}
		three := ask()
		if *two != want || *three.(*api.Fault) != want || !errors.Is(three, want.Err) {
			t.Errorf("P3: %s: faults share memory", what)
		}
	}
}

// TestNoFault: P5, where nothing is wrong the answer is nil itself.
func TestNoFault(t *testing.T) {
	if err := verify.Verify(systems(t, "stop"), kinds()); err != nil {
		t.Errorf("V1: stop: %v", err)
	}
	if _, err := verify.Depths(api.Program{}, api.Routine{Code: instrs(t, "stop")}); err != nil {
		t.Errorf("V2: stop: %v", err)
	}
}

// answers are all that is said of some programs.
func answers(p api.Program, list []api.Kind) []string {
	all := []string{told(verify.Verify(p, list))}
	for _, x := range modelRoutines(p) {
		all = append(all, depthsTold(p, x.Routine))
	}
	return all
}

// TestAgain: P4, the same answer each time, whatever order a map is gone through in, and whatever else was asked.
func TestAgain(t *testing.T) {
	for seed := range 300 {
		r := rand.New(rand.NewSource(int64(seed)))
		p, list := grow(r)
		spoil(r, &p)
		first := answers(p, list)
		other, others := grow(r)
		for range 20 {
			if again := answers(p, list); !reflect.DeepEqual(again, first) {
				t.Fatalf("P4: %v, and then %v, of %s", first, again, shown(p))
			}
			answers(other, others)
		}
	}
	many := append(slices.Repeat(instrs(t, "tick; zero 2002"), 900), instrs(t, "stop")...)
	for range 50 {
		if got := depthsTold(api.Program{}, api.Routine{Code: many}); got != "jump 1" {
			t.Fatalf("P4: of many wrong ones the least: %s", got)
		}
	}
}

// TestSideBySide: P4, many may ask at a time, of one program too.
func TestSideBySide(t *testing.T) {
	var programs []api.Program
	var lists [][]api.Kind
	var wants [][]string
	for seed := range 40 {
		r := rand.New(rand.NewSource(int64(seed)))
		p, list := grow(r)
		if seed%2 == 1 {
			spoil(r, &p)
		}
		programs, lists, wants = append(programs, p), append(lists, list), append(wants, answers(p, list))
	}
	var group sync.WaitGroup
	for worker := range 8 {
		group.Go(func() {
			for i := range programs {
				k := (i + worker*5) % len(programs)
				if got := answers(programs[k], lists[k]); !reflect.DeepEqual(got, wants[k]) {
					t.Errorf("P4: another answer beside others, of the program %d", k)
				}
			}
		})
	}
	group.Wait()
}

// FuzzVerify: P1, V1 and V2, any program that has bytes, for kinds of all sorts.
func FuzzVerify(f *testing.F) {
	for seed := range 60 {
		r := rand.New(rand.NewSource(int64(seed)))
		p, list := grow(r)
		for range seed % 3 {
			spoil(r, &p)
		}
		if b, e := code.Encode(p); e == api.OK {
			f.Add(b, len(list))
		}
	}
	f.Fuzz(func(t *testing.T, b []byte, count int) {
		p, err := code.Decode(b)
		if err != nil {
			return
		}
		compare(t, p, kinds())
		list := someKinds(rand.New(rand.NewSource(int64(count))))
		if compare(t, p, list) == "taken" {
			wantRuns(t, rand.New(rand.NewSource(1)), p, list, map[api.Errno]int{})
		}
	})
}

// FuzzDepths: P1 and V2, any routine: ops and numbers that there are not, too.
func FuzzDepths(f *testing.F) {
	f.Add([]byte{32, 0, 20, 4, 1, 5, 22, 0}, int64(2), 3)
	f.Add([]byte{19, 0, 24, 0, 21, 0, 39, 0, 19, 2}, int64(-1), -4)
	f.Add([]byte{}, int64(0), 0)
	f.Fuzz(func(t *testing.T, b []byte, far int64, params int) {
		p := api.Program{Funcs: []api.Routine{{Params: params}, {Params: 2}}}
		var r api.Routine
		for i := 0; i+1 < len(b) && i < 400; i += 2 {
			a := int64(b[i+1])
			if a == 255 {
				a = far
			}
			r.Code = append(r.Code, api.Instr{Op: int(b[i]) - 1, A: a})
		}
		if got, want := depthsTold(p, r), modelDepthsTold(p, r); got != want {
			t.Fatalf("V2: %s, want %s, of %v", got, want, r.Code)
		}
		verify.Verify(api.Program{Funcs: []api.Routine{r}, Systems: []api.System{{Reads: []int{params}, Run: r}}}, kinds())
	})
}
