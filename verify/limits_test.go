package verify_test

import (
	"fmt"
	"math/rand"
	"slices"
	"testing"

	"hindcast/api"
	"hindcast/code"
	"hindcast/verify"
)

// great are routines of 2000 instructions that are hard to look through, and what Verify says of each.
func great(t testing.TB) map[string]struct {
	list   []api.Instr
	answer string
} {
	chain := make([]api.Instr, 2000)
	for i := range chain {
		chain[i] = api.Instr{Op: code.Jump, A: int64(i + 1)}
	}
	chain[1999] = api.Instr{Op: code.Stop}
	round := slices.Clone(chain)
	round[1999] = api.Instr{Op: code.Jump, A: 1}
	end := slices.Clone(chain)
	end[1998].A = 1998
	back := make([]api.Instr, 2000) // from the last one to the first one, and from there to the end
	for i := range back {
		back[i] = api.Instr{Op: code.Jump, A: int64(i - 1)}
	}
	back[0] = api.Instr{Op: code.Jump, A: 1999}
	back[1] = api.Instr{Op: code.Stop}
	fans := append(slices.Repeat(instrs(t, "tick; zero 1998"), 998), instrs(t, "step; step; step; stop")...)
	deep := slices.Repeat(instrs(t, "step"), 2000) // each with all depths
	deep[0], deep[1999] = api.Instr{Op: code.Tick}, api.Instr{Op: code.Jump}
	deeper := slices.Repeat(instrs(t, "tick; tick; zero 0; tick"), 500)
	most := append(slices.Repeat(instrs(t, "tick; drop"), 999), instrs(t, "step; jump 0")...)
	type row = struct {
		list   []api.Instr
		answer string
	}
	return map[string]row{
		"a chain of jumps":          {chain, "taken"},
		"a round of jumps":          {round, "end 1"},
		"a chain of jumps, a round": {end, "end 1998"},
		"jumps back":                {back, "taken"},
		"many ways to one":          {fans, "taken"},
		"many depths":               {deep, "stack 0"},
		"many depths by many jumps": {deeper, "stack 0"},
		"one round with one step":   {most, "taken"},
		"nothing but numbers":       {slices.Repeat(instrs(t, "tick"), 2000), "stack 64"},
		"steps without an end":      {slices.Repeat(instrs(t, "step"), 2000), "end 1999"},
	}
}

// TestGreatRoutines: P1, V1 and V2, as many instructions as there may be, with ways that are long, or many.
func TestGreatRoutines(t *testing.T) {
	for what, row := range great(t) {
		p := systems(t, "stop")
		p.Systems[0].Run.Code = row.list
		want(t, what, p, row.answer)
		if got, model := depthsTold(p, p.Systems[0].Run), modelDepthsTold(p, p.Systems[0].Run); got != model {
			t.Errorf("V2: %s: %.300s, want %.300s", what, got, model)
		}
	}
	depths, err := verify.Depths(api.Program{}, api.Routine{Code: great(t)["jumps back"].list})
	if err != nil || slices.Contains(depths, -1) {
		t.Errorf("V2: jumps back: not all are reached: %v", err)
	}
}

// TestGreatPrograms: V1, sixteen systems and sixteen functions, with a fault in each routine in turn.
func TestGreatPrograms(t *testing.T) {
	r := rand.New(rand.NewSource(1))
	for n := range 32 {
		for fault, word := range map[string]string{"add": "stack", "load 9": "access", "jump -1": "jump"} {
			var p api.Program
			place, at := 0, 0
			for i := range 32 {
				if n == i {
					at = place
				}
				size := r.Intn(60)
				x := api.Routine{Name: fmt.Sprint("r", i), Code: slices.Repeat(instrs(t, "step"), size)}
				if n == i {
					x.Code = append(x.Code, instrs(t, fault)...)
					at += size
				}
				if i < 16 {
					x.Code = append(x.Code, instrs(t, "stop")...)
					p.Systems = append(p.Systems, api.System{Run: x})
				} else {
					x.Code = append(x.Code, instrs(t, "tick; ret")...)
					p.Funcs = append(p.Funcs, x)
				}
				place += len(x.Code)
			}
			want(t, fmt.Sprint(fault, " in the routine ", n), p, fmt.Sprint(word, " ", at))
		}
	}
}
