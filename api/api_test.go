package api_test

import (
	"errors"
	"reflect"
	"testing"

	"hindcast/api"
)

// TestErrno: P5, errors are numbers, and tell themselves.
func TestErrno(t *testing.T) {
	var err error = api.ErrSyntax
	if err.Error() != "hindcast: error 100" {
		t.Errorf("P5: ErrSyntax tells %q", err.Error())
	}
	if !errors.Is(err, api.ErrSyntax) || errors.Is(err, api.ErrDeep) {
		t.Errorf("P5: ErrSyntax is held to be another error, or not to be itself")
	}
	if api.Errno(-5).Error() != "hindcast: error -5" {
		t.Errorf("P5: an error below 0 tells %q", api.Errno(-5).Error())
	}
}

// TestFault: P5, a fault has its place, and wraps its number.
func TestFault(t *testing.T) {
	var err error = &api.Fault{At: 12, Err: api.ErrToken}
	if err.Error() != "hindcast: error 90 at 12" {
		t.Errorf("P5: a fault tells %q", err.Error())
	}
	if !errors.Is(err, api.ErrToken) || errors.Is(err, api.ErrSyntax) {
		t.Errorf("P5: a fault does not wrap just its number")
	}
	var number api.Errno
	if !errors.As(err, &number) || number != api.ErrToken {
		t.Errorf("P5: the number of a fault is found to be %d", number)
	}
	var fault *api.Fault
	if !errors.As(err, &fault) || fault.At != 12 {
		t.Errorf("P5: a fault is not found as one")
	}
}

// TestErrors: P5, the errors are as they were given.
func TestErrors(t *testing.T) {
	for want, got := range map[int]api.Errno{
		0: api.OK, 1: api.ErrArg, 2: api.ErrState, 10: api.ErrPack, 20: api.ErrRecord, 30: api.ErrDead,
		40: api.ErrFull, 41: api.ErrStale, 50: api.ErrRow,
		60: api.ErrKind, 61: api.ErrHas, 62: api.ErrHasNot, 63: api.ErrField, 64: api.ErrWorld, 65: api.ErrKinds,
		70: api.ErrQuery, 90: api.ErrToken, 100: api.ErrSyntax, 101: api.ErrDeep, 102: api.ErrLong,
		110: api.ErrName, 111: api.ErrTwice, 112: api.ErrWrite, 113: api.ErrRead, 114: api.ErrCall, 115: api.ErrLoop, 116: api.ErrType,
		120: api.ErrFuel, 130: api.ErrCode, 150: api.ErrJump, 151: api.ErrStack, 152: api.ErrAccess, 153: api.ErrEnd,
		180: api.ErrPick, 190: api.ErrSystem, 200: api.ErrDelta, 210: api.ErrFrame, 211: api.ErrPath,
		220: api.ErrBranch, 230: api.ErrJournal, 240: api.ErrPeer, 241: api.ErrWindow, 250: api.ErrWatch, 260: api.ErrLine,
	} {
		if int(got) != want {
			t.Errorf("P5: the error %d is %d", want, got)
		}
	}
}

// TestConstants: P5, the limits and other constants are as they were given.
func TestConstants(t *testing.T) {
	for _, c := range []struct {
		name      string
		got, want int
	}{
		{"MaxEntities", api.MaxEntities, 200}, {"MaxGen", api.MaxGen, 1000000}, {"MaxKinds", api.MaxKinds, 12}, {"MaxFields", api.MaxFields, 4},
		{"MaxName", api.MaxName, 16}, {"MaxColumn", api.MaxColumn, 100000}, {"MaxRecord", api.MaxRecord, 100000}, {"MaxStore", api.MaxStore, 1 << 24},
		{"MaxSource", api.MaxSource, 8000}, {"MaxNesting", api.MaxNesting, 20}, {"MaxSystems", api.MaxSystems, 16}, {"MaxFuncs", api.MaxFuncs, 16},
		{"MaxParams", api.MaxParams, 4}, {"MaxLocals", api.MaxLocals, 32}, {"MaxStmts", api.MaxStmts, 200}, {"MaxCode", api.MaxCode, 2000},
		{"MaxStack", api.MaxStack, 64}, {"MaxCalls", api.MaxCalls, 16}, {"MaxFuel", api.MaxFuel, 2000}, {"MaxOut", api.MaxOut, 16},
		{"MaxInputs", api.MaxInputs, 32}, {"MaxAsks", api.MaxAsks, 200}, {"MaxShuffle", api.MaxShuffle, 1000}, {"MaxCommands", api.MaxCommands, 2000},
		{"MaxEvents", api.MaxEvents, 2000}, {"MaxFrames", api.MaxFrames, 5000}, {"MaxBranches", api.MaxBranches, 20}, {"MaxPeers", api.MaxPeers, 4},
		{"MaxAhead", api.MaxAhead, 8}, {"MaxWatches", api.MaxWatches, 8},
		{"TokEnd", api.TokEnd, 0}, {"TokWord", api.TokWord, 1}, {"TokNumber", api.TokNumber, 2}, {"TokSign", api.TokSign, 3},
		{"OpSpawn", api.OpSpawn, 1}, {"OpDespawn", api.OpDespawn, 2}, {"OpAdd", api.OpAdd, 3}, {"OpRemove", api.OpRemove, 4},
		{"StepLoad", api.StepLoad, 1}, {"StepUndo", api.StepUndo, 2}, {"StepPlay", api.StepPlay, 3},
	} {
		if c.got != c.want {
			t.Errorf("P5: %s is %d, want %d", c.name, c.got, c.want)
		}
	}
}

// TestTypes: P5, the plain types have the fields that were given, in their order.
func TestTypes(t *testing.T) {
	for _, c := range []struct {
		value any
		want  string
	}{
		{api.Fault{}, "At int; Err api.Errno; "},
		{api.Entity{}, "Index int; Gen int; "},
		{api.Kind{}, "Name string; Fields []string; "},
		{api.Part{}, "Kind int; Values []int64; "},
		{api.Row{}, "E api.Entity; Parts []api.Part; "},
		{api.Filter{}, "With []int; Without []int; Bounds []api.Bound; "},
		{api.Bound{}, "Kind int; Field int; Least int64; Most int64; "},
		{api.Token{}, "Kind int; Text string; At int; "},
		{api.Instr{}, "Op int; A int64; "},
		{api.Routine{}, "Name string; Params int; Locals int; Code []api.Instr; "},
		{api.System{}, "With []int; Without []int; Reads []int; Writes []int; Run api.Routine; "},
		{api.Program{}, "Systems []api.System; Funcs []api.Routine; "},
		{api.Input{}, "Player int; Key int; Value int64; "},
		{api.Tick{}, "Seed int64; Inputs []api.Input; Asks []api.Command; "},
		{api.Command{}, "Op int; E api.Entity; Kind int; Values []int64; Parts []api.Part; "},
		{api.Event{}, "System int; E api.Entity; Code int64; Value int64; "},
		{api.Outcome{}, "Values []api.Part; Commands []api.Command; Events []api.Event; Steps int; Err api.Errno; "},
		{api.Env{}, "Frame int; Seed int64; System int; Inputs []api.Input; Row api.Row; "},
		{api.Report{}, "Events []api.Event; Failed []api.Event; Refused int; Spawned []api.Entity; "},
		{api.Change{}, "E api.Entity; Gone bool; New bool; Parts []api.Part; Lost []int; "},
		{api.Step{}, "Op int; Frame int; "},
		{api.Cost{}, "Loads int; Undos int; Plays int; "},
		{api.Letter{}, "From int; To int; First int; Inputs [][]api.Input; Seen int; Sum uint32; Checked int; "},
		{api.Watch{}, "E api.Entity; Kind int; Field int; Op int; Value int64; "},
	} {
		kind := reflect.TypeOf(c.value)
		got := ""
		for i := range kind.NumField() {
			got += kind.Field(i).Name + " " + kind.Field(i).Type.String() + "; "
		}
		if got != c.want {
			t.Errorf("P5: %s has the fields %s want %s", kind, got, c.want)
		}
	}
}
