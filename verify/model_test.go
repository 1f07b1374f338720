package verify_test

import (
	"fmt"
	"math/big"
	"math/rand"
	"slices"
	"strings"
	"testing"

	"hindcast/api"
	"hindcast/code"
	"hindcast/verify"
	"hindcast/world"
)

// The model says what the chapter says, rule by rule, over tables of all that may be: by words, and without an eye to how long that takes.

// is tells whether an instruction is one of these words.
func is(i api.Instr, list string) bool {
	return slices.Contains(strings.Fields(list), code.Name(i.Op))
}

// modelNext are the instructions that may be done behind one, be they there or not.
func modelNext(list []api.Instr, at int) []int64 {
	i, behind := list[at], int64(at)+1
	switch {
	case is(i, "jump"):
		return []int64{i.A}
	case is(i, "zero"):
		return []int64{i.A, behind}
	case is(i, "ret stop"):
		return nil
	}
	return []int64{behind}
}

func modelThere(list []api.Instr, n int64) bool { return n >= 0 && n < int64(len(list)) }

// modelReached fills a table by instructions and depths, until nothing more comes to it.
func modelReached(funcs []api.Routine, list []api.Instr) [][65]bool {
	table := make([][65]bool, len(list))
	for changed := len(list) > 0; changed; {
		changed = !table[0][0]
		table[0][0] = true
		for at, i := range list {
			takes, puts := code.Effect(i, funcs)
			for d := range 65 {
				if !table[at][d] || d < takes || d-takes+puts > 64 {
					continue
				}
				for _, n := range modelNext(list, at) {
					if modelThere(list, n) && !table[n][d-takes+puts] {
						table[n][d-takes+puts], changed = true, true
					}
				}
			}
		}
	}
	return table
}

// modelDepths is what Depths tells, with the numbers of instructions counted from a place on.
func modelDepths(funcs []api.Routine, list []api.Instr, place int) (depths []int, wrong string) {
	if len(list) == 0 {
		return nil, fmt.Sprint("end ", place)
	}
	for at, row := range modelReached(funcs, list) {
		var with []int
		for d, reached := range row {
			if reached {
				with = append(with, d)
			}
		}
		if with == nil {
			depths = append(depths, -1)
			continue
		}
		depths = append(depths, with[0])
		takes, puts := code.Effect(list[at], funcs)
		next := modelNext(list, at)
		switch {
		case is(list[at], "jump zero") && !modelThere(list, list[at].A):
			return nil, fmt.Sprint("jump ", place+at)
		case len(with) > 1 || with[0] < takes || with[0]-takes+puts > 64:
			return nil, fmt.Sprint("stack ", place+at)
		case slices.Contains(next, int64(at)+1) && at+1 == len(list):
			return nil, fmt.Sprint("end ", place+at)
		}
	}
	return depths, ""
}

// modelDepthsTold is what Depths tells of a routine, as depthsTold writes it.
func modelDepthsTold(p api.Program, r api.Routine) string {
	if len(r.Code) > 2000 {
		return "code 0"
	}
	depths, wrong := modelDepths(p.Funcs, r.Code, 0)
	if wrong != "" {
		return wrong
	}
	return fmt.Sprint(depths)
}

// closed adds to each row all that its members' rows have, until there is no more.
func closed(rows []*big.Int) []*big.Int {
	for k := range rows {
		for i := range rows {
			if rows[i].Bit(k) == 1 {
				rows[i].Or(rows[i], rows[k])
			}
		}
	}
	return rows
}

// firstRound is the first whose closed row has itself; -1, if there is none.
func firstRound(rows []*big.Int) int {
	for i, row := range closed(rows) {
		if row.Bit(i) == 1 {
			return i
		}
	}
	return -1
}

func emptyRows(count int) []*big.Int {
	rows := make([]*big.Int, count)
	for i := range rows {
		rows[i] = new(big.Int)
	}
	return rows
}

// modelRound is the least instruction of a round; -1, if there is none.
func modelRound(list []api.Instr, depths []int) int {
	rows := emptyRows(len(list))
	in := func(at int64) bool { return depths[at] >= 0 && !is(list[at], "step call") }
	for at := range list {
		if !in(int64(at)) {
			continue
		}
		for _, n := range modelNext(list, at) {
			if in(n) {
				rows[at].SetBit(rows[at], int(n), 1)
			}
		}
	}
	return firstRound(rows)
}

// modelCalls is the first function that calls itself; -1, if there is none.
func modelCalls(funcs []api.Routine) int {
	rows := emptyRows(len(funcs))
	for n, f := range funcs {
		for _, i := range f.Code {
			if is(i, "call") {
				rows[n].SetBit(rows[n], int(i.A), 1)
			}
		}
	}
	return firstRound(rows)
}

// modelRoutine is a routine with its place, and its system, if it is one's.
type modelRoutine struct {
	api.Routine
	place  int
	system *api.System
}

func modelRoutines(p api.Program) []modelRoutine {
	var all []modelRoutine
	place := 0
	for _, s := range p.Systems {
		all = append(all, modelRoutine{s.Run, place, &s})
		place += len(s.Run.Code)
	}
	for _, f := range p.Funcs {
		all = append(all, modelRoutine{f, place, nil})
		place += len(f.Code)
	}
	return all
}

// modelTouches tells whether one of the rows of ErrAccess is true of an instruction.
func modelTouches(p api.Program, kinds []api.Kind, r modelRoutine, at int) bool {
	i := r.Code[at]
	fields := map[int64]int64{}
	for n, k := range kinds {
		fields[int64(n+1)] = int64(len(k.Fields))
	}
	if i.A < 0 && is(i, "load store field put call part give take has") {
		return true
	}
	if r.system == nil && is(i, "field put emit part spawn give take die has stop") || r.system != nil && is(i, "ret") {
		return true
	}
	kind, n := i.A/8, i.A%8
	count, isKind := fields[kind]
	switch {
	case is(i, "load store"):
		return i.A >= int64(r.Locals)
	case is(i, "call"):
		return i.A >= int64(len(p.Funcs))
	case is(i, "field"):
		return !slices.Contains(slices.Concat(r.system.Reads, r.system.Writes), int(kind)) || n >= count
	case is(i, "put"):
		return !slices.Contains(r.system.Writes, int(kind)) || n >= count
	case is(i, "take has"):
		_, isKind = fields[i.A]
		return !isKind
	case is(i, "give"):
		return !isKind || n != count
	case is(i, "part"):
		full := at >= 12 && !slices.ContainsFunc(r.Code[at-12:at], func(i api.Instr) bool { return !is(i, "part") })
		return !isKind || n != count || full || at+1 >= len(r.Code) || !is(r.Code[at+1], "part spawn")
	}
	return false
}

// modelVerify is what Verify tells, as told writes it.
func modelVerify(p api.Program, kinds []api.Kind) string {
	if _, e := world.New(kinds); e != api.OK {
		return "kinds 0"
	}
	if _, e := code.Encode(p); e != api.OK {
		return "code 0"
	}
	all := modelRoutines(p)
	for _, r := range all[:len(p.Systems)] {
		if slices.Max(slices.Concat([]int{0}, r.system.With, r.system.Without, r.system.Reads, r.system.Writes)) > len(kinds) {
			return fmt.Sprint("kind ", r.place)
		}
	}
	for _, r := range all {
		for at, i := range r.Code {
			if modelTouches(p, kinds, r, at) {
				return fmt.Sprint("access ", r.place+at)
			}
			if is(i, "jump zero") && modelThere(r.Code, i.A) && i.A > 0 && is(r.Code[i.A-1], "part") {
				return fmt.Sprint("jump ", r.place+at)
			}
		}
	}
	if n := modelCalls(p.Funcs); n >= 0 {
		return fmt.Sprint("loop ", all[len(p.Systems)+n].place)
	}
	var depths [][]int
	for _, r := range all {
		list, wrong := modelDepths(p.Funcs, r.Code, r.place)
		if wrong != "" {
			return wrong
		}
		depths = append(depths, list)
	}
	for n, r := range all {
		if at := modelRound(r.Code, depths[n]); at >= 0 {
			return fmt.Sprint("end ", r.place+at)
		}
	}
	return "taken"
}

// compare asks Verify, and Depths of each routine, and the model.
func compare(t testing.TB, p api.Program, kinds []api.Kind) string {
	t.Helper()
	got, want := told(verify.Verify(p, kinds)), modelVerify(p, kinds)
	if got != want {
		t.Fatalf("V1: %s, want %s, of %s\nfor %v", got, want, shown(p), kinds)
	}
	for _, r := range modelRoutines(p) {
		if got, want := depthsTold(p, r.Routine), modelDepthsTold(p, r.Routine); got != want {
			t.Fatalf("V2: %s, want %s, of %s", got, want, words(r.Code))
		}
	}
	return got
}

// shown is a program, routine by routine.
func shown(p api.Program) string {
	text := ""
	for _, r := range modelRoutines(p) {
		if r.system != nil {
			text += fmt.Sprintf("\nsystem with %v without %v reads %v writes %v", r.system.With, r.system.Without, r.system.Reads, r.system.Writes)
		}
		text += fmt.Sprintf("\n%d: params %d locals %d: %s", r.place, r.Params, r.Locals, words(r.Code))
	}
	return text
}

// TestAgainstModel: V1 and V2, grown programs, and such in which some things are spoilt.
func TestAgainstModel(t *testing.T) {
	seen := map[string]int{}
	for seed := range 12000 {
		r := rand.New(rand.NewSource(int64(seed)))
		p, list := grow(r)
		for range seed % 4 {
			spoil(r, &p)
		}
		if seed%50 == 1 {
			list = list[:r.Intn(len(list)+1)]
		}
		word, _, _ := strings.Cut(compare(t, p, list), " ")
		if word == "taken" && seed%4 != 0 {
			word = "taken though spoilt"
		}
		seen[word]++
	}
	for _, word := range []string{"taken", "taken though spoilt", "kinds", "code", "kind", "access", "jump", "loop", "stack", "end"} {
		if seen[word] < 20 {
			t.Errorf("the test's own programs are of too few sorts: %v", seen)
			break
		}
	}
}

// TestAllSmallRoutines: V1 and V2, all routines of up to four of some instructions.
func TestAllSmallRoutines(t *testing.T) {
	some := instrs(t, "step; tick; drop; stop; part 8; spawn; jump 0; jump 1; jump 2; jump 3; zero 0; zero 1; zero 2; zero 3")
	p := systems(t, "")
	p.Systems[0].Reads, p.Systems[0].Writes, p.Systems[0].With, p.Systems[0].Without = nil, nil, nil, nil
	none := []api.Kind{{Name: "None"}}
	var grow func(ahead []api.Instr)
	grow = func(ahead []api.Instr) {
		p.Systems[0].Run.Code = ahead
		compare(t, p, none)
		for _, i := range some {
			if len(ahead) < 4 {
				grow(append(ahead[:len(ahead):len(ahead)], i))
			}
		}
	}
	grow(nil)
}
