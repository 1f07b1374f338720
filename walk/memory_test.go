package walk_test

import (
	"fmt"
	"math/rand"
	"sync"
	"testing"

	"hindcast/api"
	"hindcast/check"
	"hindcast/walk"
)

// busy tells and writes as much as it can.
const busy = `func f(a) { let b = rand(a); return b + input(1, 2); }
system A reads Vel writes Pair, Mark, Pos, Box {
	Pos.x = f(9); Box.c = Pos.x;
	repeat 3 { spawn Box{a: 1, x: Pos.x}, Mark{}, Pair{b: f(4)}; add Pair{a: Vel.x}; add Mark{}; remove Pos; die; emit Pos.x, f(3); }
}
system B writes Vel { while 1 == 1 { Vel.x = Vel.x + 1; emit 1, 2; } }`

func busyEnv() api.Env {
	return api.Env{Frame: 2, Seed: 3, Inputs: []api.Input{{Player: 1, Key: 2, Value: 40}}, Row: api.Row{E: api.Entity{Index: 8, Gen: 2}, Parts: []api.Part{
		{Kind: 1, Values: []int64{7}}, {Kind: 2, Values: []int64{2}}, {Kind: 3}, {Kind: 4, Values: []int64{1, 2, 3, 4}}, {Kind: 5, Values: []int64{5, 6}},
	}}}
}

// listsOf are all lists of numbers in an outcome.
func listsOf(o api.Outcome) []*[]int64 {
	var lists []*[]int64
	for i := range o.Values {
		lists = append(lists, &o.Values[i].Values)
	}
	for i := range o.Commands {
		lists = append(lists, &o.Commands[i].Values)
		for k := range o.Commands[i].Parts {
			lists = append(lists, &o.Commands[i].Parts[k].Values)
		}
	}
	return lists
}

// spoil writes into all of an outcome, and into the room behind its lists.
func spoil(o api.Outcome) {
	for _, list := range listsOf(o) {
		whole := (*list)[:cap(*list)]
		for i := range whole {
			whole[i] = -77
		}
	}
	for _, command := range o.Commands {
		whole := command.Parts[:cap(command.Parts)]
		for i := range whole {
			whole[i] = api.Part{Kind: -1}
		}
	}
	values, commands, events := o.Values[:cap(o.Values)], o.Commands[:cap(o.Commands)], o.Events[:cap(o.Events)]
	for i := range values {
		values[i] = api.Part{Kind: -1}
	}
	for i := range commands {
		commands[i] = api.Command{Op: -1}
	}
	for i := range events {
		events[i] = api.Event{System: -1}
	}
}

// TestOutcomesAreNewMemory: P3, what is written into an outcome stands in no other one, nor in what was handed in.
func TestOutcomesAreNewMemory(t *testing.T) {
	c, e := checked(t, busy), busyEnv()
	want, ahead := tell(walk.Run(c, 0, e)), fmt.Sprint(e)
	if o := walk.Run(c, 0, e); o.Err != api.OK || len(o.Values) != 4 || len(o.Commands) != 15 || len(o.Events) != 3 {
		t.Fatalf("the test's own source: %s", tell(o))
	}
	for range 3 {
		one, two := walk.Run(c, 0, e), walk.Run(c, 0, e)
		spoil(one)
		if tell(two) != want || fmt.Sprint(e) != ahead {
			t.Fatalf("P3: what is written into an outcome stands elsewhere, too")
		}
	}
	if tell(walk.Run(c, 0, e)) != want {
		t.Errorf("P3: what is written into an outcome changes later ones")
	}
}

// TestListsAreApart: P3, no two lists of an outcome share memory, nor does the room behind them.
func TestListsAreApart(t *testing.T) {
	c, e := checked(t, busy), busyEnv()
	count := len(listsOf(walk.Run(c, 0, e)))
	for i := range count {
		o := walk.Run(c, 0, e)
		lists := listsOf(o)
		whole := (*lists[i])[:cap(*lists[i])]
		for k := range whole {
			whole[k] = -77
		}
		*lists[i] = nil
		got := tell(o)
		want := walk.Run(c, 0, e)
		*listsOf(want)[i] = nil
		if got != tell(want) {
			t.Errorf("P3: the list %d shares memory with another one: %s", i, got)
		}
	}
	o := walk.Run(c, 0, e)
	for i := range o.Commands {
		ahead := tell(o)
		_ = append(o.Commands[i].Parts, api.Part{Kind: -1}, api.Part{Kind: -2})
		if tell(o) != ahead {
			t.Errorf("P3: the room behind the parts of the command %d is that of another one", i)
		}
	}
}

// withRoom gives an env whose lists have room behind them, and a call that tells whether something was written there.
func withRoom(e api.Env) (api.Env, func() bool) {
	e = copiedEnv(e)
	junk := api.Part{Kind: -5, Values: []int64{-5}}
	for i, part := range e.Row.Parts {
		e.Row.Parts[i].Values = append(part.Values, -5, -5)[:len(part.Values)]
	}
	e.Row.Parts = append(e.Row.Parts, junk)[:len(e.Row.Parts)]
	e.Inputs = append(e.Inputs, api.Input{Player: -5})[:len(e.Inputs)]
	ahead := fmt.Sprint(e)
	return e, func() bool {
		for _, part := range e.Row.Parts {
			if room := part.Values[len(part.Values) : len(part.Values)+2]; room[0] != -5 || room[1] != -5 {
				return false
			}
		}
		behind := e.Row.Parts[:len(e.Row.Parts)+1][len(e.Row.Parts)]
		return fmt.Sprint(e) == ahead && fmt.Sprint(behind) == fmt.Sprint(junk) && e.Inputs[:len(e.Inputs)+1][len(e.Inputs)].Player == -5
	}
}

// TestNothingIsWrittenInto: P3, neither into what is handed in, nor behind its lists, nor into the program, however a run ends.
func TestNothingIsWrittenInto(t *testing.T) {
	for seed := range 400 {
		r := rand.New(rand.NewSource(int64(seed)))
		src, list := grow(r)
		c := checkedFor(t, src, list)
		before := program(c)
		for system := range c.Systems() {
			e, isWhole := withRoom(someEnv(r, list))
			spoil(walk.Run(c, system, e))
			if !isWhole() {
				t.Fatalf("P3: a run has written into what was handed in: %s", src)
			}
			if program(c) != before {
				t.Fatalf("P3: a run has written into its program: %s", src)
			}
		}
	}
}

// program is everything that a checked program says of itself.
func program(c *check.Checked) string {
	var show func(n *node) string
	show = func(n *node) string {
		text := fmt.Sprint(n.Op, n.Text, n.Num, n.At)
		for _, child := range n.L {
			text += " (" + show(child) + ")"
		}
		return text
	}
	return fmt.Sprint(show(c.Tree()), c.Systems(), c.Funcs(), c.Kinds())
}

// TestNothingIsKept: P3 and P4, what is handed in is the caller's again behind a run, and runs know nothing of one another.
func TestNothingIsKept(t *testing.T) {
	c, e := checked(t, busy), busyEnv()
	o := walk.Run(c, 0, e)
	want := tell(o)
	walk.Run(c, 1, e)
	walk.Run(checked(t, busy), 0, env())
	for i := range e.Row.Parts {
		for k := range e.Row.Parts[i].Values {
			e.Row.Parts[i].Values[k] = -1
		}
		e.Row.Parts[i].Kind = -1
	}
	e.Inputs[0].Value = -1
	if tell(o) != want {
		t.Errorf("P3: an outcome shares memory with what was handed in")
	}
	if got := tell(walk.Run(c, 0, busyEnv())); got != want {
		t.Errorf("P4: a run hangs on what was asked ahead of it: %s, want %s", got, want)
	}
}

// TestSideBySide: P4, many may let one program run at a time.
func TestSideBySide(t *testing.T) {
	type job struct {
		c      *check.Checked
		system int
		e      api.Env
		want   string
	}
	var jobs []job
	for seed := range 60 {
		r := rand.New(rand.NewSource(int64(seed)))
		src, list := grow(r)
		c, e := checkedFor(t, src, list), someEnv(r, list)
		for system := range c.Systems() {
			jobs = append(jobs, job{c, system, e, tell(walk.Run(c, system, e))})
		}
	}
	c := checked(t, busy)
	for system := range 2 {
		jobs = append(jobs, job{c, system, busyEnv(), tell(walk.Run(c, system, busyEnv()))})
	}
	got := make([]string, 4*len(jobs))
	var wait sync.WaitGroup
	for i := range got {
		wait.Go(func() {
			j := jobs[i%len(jobs)]
			got[i] = tell(walk.Run(j.c, j.system, j.e))
		})
	}
	wait.Wait()
	for i := range got {
		if want := jobs[i%len(jobs)].want; got[i] != want {
			t.Errorf("P4: beside others: %s, want %s", got[i], want)
		}
	}
}
