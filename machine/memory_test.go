package machine_test

import (
	"fmt"
	"math/rand"
	"slices"
	"strings"
	"sync"
	"testing"

	"hindcast/api"
	"hindcast/code"
	"hindcast/machine"
	"hindcast/verify"
)

// junk stands in the room behind lists, and must stay there.
const junk = -77

// busy tells and writes as much as it can.
func busy() (api.Program, api.Env) {
	one := "push 1; push 2; push 3; part 17; push 4; push 5; part 26; part 8; spawn; give 10; push 6; push 7; give 18; push 8; give 9; take 3; push 9; push 10; emit; part 40; spawn; push 11; put 9;"
	p := program(strings.Repeat(one, 2)+"push 1; call 0; put 8; stop", "1 2: load 0; push 2; mul; store 1; load 1; ret")
	p.Systems[1].Writes = []int{4, 1, 3, 1, 12}
	e := env()
	e.Row.Parts = append(e.Row.Parts, api.Part{Kind: 3}, api.Part{Kind: 12, Values: []int64{1, 2, 3}})
	return p, e
}

// listsOf are all lists of numbers in an outcome.
func listsOf(o api.Outcome) []*[]int64 {
	var lists []*[]int64
	for i := range o.Values {
		lists = append(lists, &o.Values[i].Values)
	}
	for i := range o.Commands {
		lists = append(lists, &o.Commands[i].Values)
		for k := range o.Commands[i].Parts {
			lists = append(lists, &o.Commands[i].Parts[k].Values)
		}
	}
	return lists
}

// fill writes into a list, and into the room behind it.
func fill[T any](list []T, with T) {
	whole := list[:cap(list)]
	for i := range whole {
		whole[i] = with
	}
}

// overwrite writes into all of an outcome, and into the room behind its lists.
func overwrite(o api.Outcome) {
	for _, list := range listsOf(o) {
		fill(*list, junk)
	}
	for _, command := range o.Commands {
		fill(command.Parts, api.Part{Kind: junk})
	}
	fill(o.Values, api.Part{Kind: junk})
	fill(o.Commands, api.Command{Op: junk})
	fill(o.Events, api.Event{System: junk})
}

// TestOutcomesAreNewMemory: P3, what is written into an outcome stands in no other one, nor in what was handed in.
func TestOutcomesAreNewMemory(t *testing.T) {
	p, e := busy()
	o := machine.Run(p, 1, e)
	if o.Err != api.OK || len(o.Values) != 4 || len(o.Commands) != 12 || len(o.Events) != 2 || o.Steps != 1 {
		t.Fatalf("the test's own program: %s", told(o))
	}
	want, ahead := told(o), fmt.Sprint(p, e)
	for range 3 {
		one, two := machine.Run(p, 1, e), machine.Run(p, 1, e)
		overwrite(one)
		if told(two) != want || fmt.Sprint(p, e) != ahead {
			t.Fatalf("P3: what is written into an outcome stands elsewhere, too")
		}
	}
	if told(machine.Run(p, 1, e)) != want {
		t.Errorf("P3: what is written into an outcome changes later ones")
	}
}

// TestListsAreApart: P3, no two lists of an outcome share memory, nor does the room behind them.
func TestListsAreApart(t *testing.T) {
	p, e := busy()
	for i := range listsOf(machine.Run(p, 1, e)) {
		o, want := machine.Run(p, 1, e), machine.Run(p, 1, e)
		fill(*listsOf(o)[i], junk)
		*listsOf(o)[i], *listsOf(want)[i] = nil, nil
		if told(o) != told(want) {
			t.Errorf("P3: the list %d shares memory with another one: %s", i, told(o))
		}
	}
	for i := range machine.Run(p, 1, e).Commands {
		o, want := machine.Run(p, 1, e), machine.Run(p, 1, e)
		fill(o.Commands[i].Parts, api.Part{Kind: junk})
		o.Commands[i].Parts, want.Commands[i].Parts = nil, nil
		if told(o) != told(want) {
			t.Errorf("P3: the parts of the command %d share memory with those of another one: %s", i, told(o))
		}
	}
}

// roomy gives a list with room behind it, with junk in it.
func roomy[T any](list []T, junk T) []T {
	return append(slices.Clone(list), junk, junk, junk)[:len(list)]
}

func roomyProgram(p api.Program) api.Program {
	routine := func(r api.Routine) api.Routine {
		r.Code = roomy(r.Code, api.Instr{Op: junk})
		return r
	}
	q := api.Program{Systems: roomy(p.Systems, api.System{Run: api.Routine{Params: junk}}), Funcs: roomy(p.Funcs, api.Routine{Params: junk})}
	for i, s := range q.Systems {
		q.Systems[i] = api.System{With: roomy(s.With, junk), Without: roomy(s.Without, junk), Reads: roomy(s.Reads, junk), Writes: roomy(s.Writes, junk), Run: routine(s.Run)}
	}
	for i, f := range q.Funcs {
		q.Funcs[i] = routine(f)
	}
	return q
}

func roomyEnv(e api.Env) api.Env {
	e.Inputs = roomy(e.Inputs, api.Input{Player: junk})
	e.Row.Parts = roomy(e.Row.Parts, api.Part{Kind: junk})
	for i, part := range e.Row.Parts {
		e.Row.Parts[i].Values = roomy(part.Values, junk)
	}
	return e
}

// whole is all that is handed in, with the room behind its lists.
func whole(p api.Program, e api.Env) string {
	var b strings.Builder
	for _, s := range p.Systems[:cap(p.Systems)] {
		fmt.Fprint(&b, s.With[:cap(s.With)], s.Without[:cap(s.Without)], s.Reads[:cap(s.Reads)], s.Writes[:cap(s.Writes)], s.Run.Params, s.Run.Locals, s.Run.Code[:cap(s.Run.Code)])
	}
	for _, f := range p.Funcs[:cap(p.Funcs)] {
		fmt.Fprint(&b, f.Params, f.Locals, f.Code[:cap(f.Code)])
	}
	fmt.Fprint(&b, e.Frame, e.Seed, e.System, e.Inputs[:cap(e.Inputs)], e.Row.E)
	for _, part := range e.Row.Parts[:cap(e.Row.Parts)] {
		fmt.Fprint(&b, part.Kind, part.Values[:cap(part.Values)])
	}
	return b.String()
}

// TestNothingIsWrittenInto: P3, what is handed in stays as it is, with the room behind its lists, however a run ends, and whatever is done with its outcome.
func TestNothingIsWrittenInto(t *testing.T) {
	for seed := range 1000 {
		r := rand.New(rand.NewSource(int64(seed)))
		p := grow(r)
		for range seed % 3 {
			spoil(r, &p)
		}
		p = roomyProgram(p)
		for system := range p.Systems {
			e := roomyEnv(someEnv(r))
			before := whole(p, e)
			overwrite(machine.Run(p, system, e))
			if whole(p, e) != before {
				t.Fatalf("P3: what was handed in is another one: %s", shown(p))
			}
		}
	}
}

// TestNothingIsKept: P3 and P4, what is handed in is the caller's again behind a run, and runs know nothing of one another.
func TestNothingIsKept(t *testing.T) {
	p, e := busy()
	o := machine.Run(p, 1, e)
	want := told(o)
	machine.Run(p, 0, e)
	machine.Run(program("push 50; put 8; push 1; part 9; jump 0"), 1, e)
	fill(p.Systems[1].Writes, junk)
	fill(p.Systems[1].Run.Code, api.Instr{})
	for _, part := range e.Row.Parts {
		fill(part.Values, junk)
	}
	fill(e.Row.Parts, api.Part{})
	fill(e.Inputs, api.Input{})
	if told(o) != want {
		t.Errorf("P3: an outcome shares memory with what was handed in")
	}
	p, e = busy()
	if got := told(machine.Run(p, 1, e)); got != want {
		t.Errorf("P4: a run hangs on what was asked ahead of it: %s, want %s", got, want)
	}
}

// TestArgumentsAlone: what follows, a run hangs on e.Inputs only by the last one of each player and key, and not on e.System.
func TestArgumentsAlone(t *testing.T) {
	for seed := range 600 {
		r := rand.New(rand.NewSource(int64(seed)))
		p, e := grow(r), someEnv(r)
		other := e
		other.System += 1 + r.Intn(5)
		other.Inputs = nil
		for i, input := range e.Inputs { // the last ones, in another order, with others ahead
			isSame := func(x api.Input) bool { return x.Player == input.Player && x.Key == input.Key }
			if !slices.ContainsFunc(e.Inputs[i+1:], isSame) {
				other.Inputs = slices.Insert(other.Inputs, 0, api.Input{Player: input.Player, Key: input.Key, Value: 1234}, input)
			}
		}
		for system := range p.Systems {
			one, two := told(machine.Run(p, system, e)), told(machine.Run(p, system, other))
			if one != two {
				t.Fatalf("K1: with the inputs %v: %s\nwith %v: %s\n%s", e.Inputs, one, other.Inputs, two, shown(p))
			}
		}
	}
}

// TestSideBySide: P4, many may let one program run at a time.
func TestSideBySide(t *testing.T) {
	type job struct {
		p      api.Program
		system int
		e      api.Env
		want   string
	}
	var jobs []job
	for seed := range 60 {
		r := rand.New(rand.NewSource(int64(seed)))
		p, e := grow(r), someEnv(r)
		for system := range p.Systems {
			jobs = append(jobs, job{p, system, e, told(machine.Run(p, system, e))})
		}
	}
	p, e := busy()
	jobs = append(jobs, job{p, 1, e, told(machine.Run(p, 1, e))})
	got := make([]string, 4*len(jobs))
	var group sync.WaitGroup
	for i := range got {
		group.Go(func() {
			j := jobs[i%len(jobs)]
			got[i] = told(machine.Run(j.p, j.system, j.e))
		})
	}
	group.Wait()
	for i := range got {
		if want := jobs[i%len(jobs)].want; got[i] != want {
			t.Errorf("P4: beside others: %s, want %s", got[i], want)
		}
	}
}

// FuzzRun: P1, K1 and P7, any program that has bytes, for entities of all sorts.
func FuzzRun(f *testing.F) {
	for seed := range 60 {
		r := rand.New(rand.NewSource(int64(seed)))
		p := grow(r)
		for range seed % 3 {
			spoil(r, &p)
		}
		if b, e := code.Encode(p); e == api.OK {
			f.Add(b, int64(seed))
		}
	}
	f.Fuzz(func(t *testing.T, b []byte, seed int64) {
		p, err := code.Decode(b)
		if err != nil {
			return
		}
		r := rand.New(rand.NewSource(seed))
		mayRun := verify.Verify(p, kinds()) == nil
		for system := range p.Systems {
			compare(t, p, system, someEnv(r), map[string]int{})
			if why := machine.Run(p, system, wholeEnv(r)).Err; mayRun && why != api.OK && why != api.ErrFuel && why != api.ErrLong {
				t.Fatalf("P7: a program that is taken is cut off by %v: %s", why, shown(p))
			}
		}
		for range 3 {
			if len(p.Systems) > 0 {
				spoil(r, &p)
				compare(t, p, r.Intn(len(p.Systems)), someEnv(r), map[string]int{})
			}
		}
	})
}

// FuzzCode: P1 and K1, any code: ops and numbers that there are not, too.
func FuzzCode(f *testing.F) {
	f.Add([]byte{32, 0, 20, 4, 1, 5, 22, 0}, int64(2), 3, 2)
	f.Add([]byte{19, 0, 24, 0, 21, 0, 39, 0, 19, 2}, int64(-1), -4, 70)
	f.Add([]byte{}, int64(0), 0, 0)
	f.Fuzz(func(t *testing.T, b []byte, far int64, params, locals int) {
		x := api.Routine{Params: params, Locals: locals}
		for i := 0; i+1 < len(b) && i < 400; i += 2 {
			a := int64(b[i+1])
			if a == 255 {
				a = far
			}
			x.Code = append(x.Code, api.Instr{Op: int(b[i]) - 1, A: a})
		}
		p := api.Program{Systems: []api.System{{Reads: []int{2, params}, Writes: []int{3, 1, locals}, Run: x}}, Funcs: []api.Routine{x, function("2 1: load 0; load 1; sub; ret")}}
		if params > 20 || params < -20 || locals > 20 || locals < -20 {
			p.Systems[0].Reads, p.Systems[0].Writes = []int{2}, []int{1, 3}
		}
		compare(t, p, 0, env(), map[string]int{})
	})
}
