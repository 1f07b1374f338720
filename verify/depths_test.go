package verify_test

import (
	"fmt"
	"math"
	"slices"
	"strings"
	"testing"

	"hindcast/api"
	"hindcast/code"
	"hindcast/verify"
)

// depthsTold is what Depths says of a routine: its depths, or its fault.
func depthsTold(p api.Program, r api.Routine) string {
	list, err := verify.Depths(p, r)
	if err == nil {
		return fmt.Sprint(list)
	}
	if list != nil {
		return fmt.Sprint("an error, and ", list)
	}
	return told(err)
}

// wantDepths asks for the depths of code, for functions of 0, 1, 2, 3 and 4 params.
func wantDepths(t *testing.T, text string, want string) {
	t.Helper()
	p := api.Program{}
	for params := range 5 {
		p.Funcs = append(p.Funcs, api.Routine{Params: params})
	}
	if got := depthsTold(p, api.Routine{Code: instrs(t, text)}); got != want {
		t.Errorf("V2: %s: %s, want %s", text, got, want)
	}
}

// TestDepthsOfExamples: V2, the chapter's, and how depths come about.
func TestDepthsOfExamples(t *testing.T) {
	for text, answer := range map[string]string{
		"step; field 8; field 16; add; put 8; stop": "[0 0 1 2 1 0]",
		"add; stop":                            "stack 0",
		"stop; add":                            "[0 -1]",
		"step; jump 0":                         "[0 0]",
		"jump 0":                               "[0]", // a round is nothing wrong here
		"push 1; jump 0":                       "stack 0",
		"zero 1; stop":                         "stack 0",
		"zero 5; stop":                         "jump 0",
		"part 9; stop":                         "stack 0",
		"push 0; part 9; stop":                 "[0 1 0]", // nor what is touched
		"push 0; part 9; spawn; jump 2":        "[0 1 0 0]",
		"call 99; load -1; put -8; drop; stop": "[0 1 2 1 0]",
		"call -1; ret":                         "[0 1]",
		"ret":                                  "stack 0",
		"push 3; ret; ret; stop":               "[0 1 -1 -1]",
		"push 1; push 2; push 3; call 3; ret":  "[0 1 2 3 1]",
		"push 1; push 2; call 3; ret":          "stack 2",
		"call 0; call 1; call 0; call 2; ret":  "[0 1 1 2 1]",
		"push 0; push 0; push 0; push 0; call 4; stop":     "[0 1 2 3 4 1]",
		"push 0; push 0; push 0; call 4; stop":             "stack 3",
		"me; me; me; me; part 12; stop":                    "[0 1 2 3 4 0]",
		"me; me; me; me; me; me; me; give 15; stop":        "[0 1 2 3 4 5 6 7 0]",
		"me; me; me; me; me; me; give 15; stop":            "stack 6",
		"give -1; part -9223372036854775808; give 8; stop": "[0 0 0 0]",
	} {
		wantDepths(t, text, answer)
	}
}

// TestDepthsOfOps: V2, of each op what it takes and puts, as code.Effect tells it.
func TestDepthsOfOps(t *testing.T) {
	for op := -1; op <= 41; op++ {
		if op == code.Jump || op == code.Zero || op == code.Ret || op == code.Stop {
			continue
		}
		for ahead := range 5 {
			list := append(slices.Repeat(instrs(t, "me"), ahead), api.Instr{Op: op, A: 1})
			list = append(list, instrs(t, "stop")...)
			p := api.Program{Funcs: make([]api.Routine, 2)}
			p.Funcs[1].Params = 3
			takes, puts := code.Effect(api.Instr{Op: op, A: 1}, p.Funcs)
			want := fmt.Sprint("stack ", ahead)
			if ahead >= takes {
				var depths []int
				for depth := range ahead + 1 {
					depths = append(depths, depth)
				}
				want = fmt.Sprint(append(depths, ahead-takes+puts))
			}
			if got := depthsTold(p, api.Routine{Code: list}); got != want {
				t.Errorf("V2: the op %d with %d numbers on the stack: %s, want %s", op, ahead, got, want)
			}
		}
	}
}

// TestDepthsOfWays: V2, where jumps lead, and which ends there are.
func TestDepthsOfWays(t *testing.T) {
	for text, answer := range map[string]string{
		"push 5; jump 3; add; drop; stop":                   "[0 1 -1 1 0]",
		"push 1; zero 3; stop; stop":                        "[0 1 0 0]",
		"push 1; zero 2; stop":                              "[0 1 0]",
		"tick; zero 4; push 1; jump 5; push 2; ret":         "[0 1 0 1 0 1]",
		"tick; zero 4; push 1; jump 6; push 2; push 3; ret": "stack 6",
		"tick; zero 3; push 1; stop":                        "stack 3",
		"tick; zero 0; stop":                                "[0 1 0]",
		"tick; zero 1; stop":                                "stack 1", // with 1 and with 0
		"tick; tick; zero 1; stop":                          "[0 1 2 1]",
		"step; jump 2":                                      "jump 1",
		"step; jump 1":                                      "[0 0]",
		"jump 1; jump 2; jump 0":                            "[0 0 0]",
		"jump 2; stop; jump 1":                              "[0 0 0]",
		"jump -1":                                           "jump 0",
		"jump 9223372036854775807; stop":                    "jump 0",
		"jump -9223372036854775808; stop":                   "jump 0",
		"jump 4294967296; stop":                             "jump 0",
		"step; zero 9; stop":                                "jump 1", // though its stack does not fit
		"tick; zero 2":                                      "jump 1", // though nothing is behind it
		"tick; zero 0":                                      "end 1",
		"tick; zero 7; stop":                                "jump 1",
		"tick; zero 7; add; stop":                           "jump 1", // the way behind it goes on, but its number is greater
		"jump 3; add; stop; tick; zero -1; jump 1":          "stack 1",
		"step":                       "end 0",
		"tick":                       "end 0",
		"add":                        "stack 0",
		"step; step; drop":           "stack 2",
		"tick; step":                 "end 1",
		"stop; step":                 "[0 -1]",
		"stop; jump 9":               "[0 -1]",
		"jump 2; add; stop":          "[0 -1 0]",
		"jump 3; stop; step; jump 2": "[0 -1 0 0]",
		// the least number, not the first that is come to
		"jump 2; add; jump 1":                     "stack 1",
		"jump 3; add; stop; jump 5; stop; jump 1": "stack 1",
		"jump 2; jump 9; tick; zero 1; add; stop": "jump 1",
		"jump 2; stop; tick; zero 1; add; jump 1": "stack 4",
		// one that does not fit leads on nowhere
		"jump 2; add; drop; jump 1": "stack 2",
	} {
		wantDepths(t, text, answer)
	}
}

// TestDepthsOfSeveralDepths: V2, what is reached with several depths is wrong, and what is behind it is reached with those that fit.
func TestDepthsOfSeveralDepths(t *testing.T) {
	for text, answer := range map[string]string{
		// 3 is come to with 0 and with 1; only with 1 it leads on, to the add at 1
		"jump 2; add; tick; zero 5; tick; drop; jump 1":                "stack 1",
		"jump 2; drop; tick; zero 6; jump 7; stop; tick; drop; jump 1": "stack 1",
		"jump 3; jump 99; stop; tick; zero 6; tick; drop; jump 1":      "jump 1",
		// 10 is come to with 0, 1 and 2; only with 2 it leads on
		"jump 3; jump 99; stop; tick; zero 10; tick; tick; zero 10; tick; step; add; jump 1": "jump 1",
		"push 0; push 0; zero 0; stop":                                 "stack 0",
		"tick; zero 3; tick; step; drop; stop":                         "stack 3",
		"jump 3; step; stop; tick; zero 6; tick; drop; jump 1":         "stack 6",
		"jump 4; tick; zero 4; stop; tick; zero 1; jump 4":             "[0 0 1 0 0 1 0]",
		"step; push 1; zero 0; push 1; jump 0":                         "stack 0",
		"jump 5; step; jump 9; stop; stop; tick; zero 8; tick; jump 1": "stack 1",
		"push 1; step; jump 0; stop":                                   "stack 0",
		"jump 3; step; add; push 1; step; jump 4":                      "[0 -1 -1 0 1 1]",
		"jump 3; drop; jump 4; push 1; push 1; jump 1":                 "[0 2 1 0 1 2]",
	} {
		wantDepths(t, text, answer)
	}
}

// TestDepthsAtTheTop: V2, up to MaxStack numbers, and no more.
func TestDepthsAtTheTop(t *testing.T) {
	top := strings.Repeat("me; ", 64)
	list, err := verify.Depths(api.Program{}, api.Routine{Code: instrs(t, top+"stop")})
	if err != nil || len(list) != 65 || list[64] != 64 || list[63] != 63 {
		t.Errorf("V2: 64 numbers: %v, %v", list, err)
	}
	for text, answer := range map[string]string{
		"me; stop": "stack 64", "load 0; stop": "stack 64", "call 0; stop": "stack 64", "has 1; stop": "stack 64", "me": "stack 64", "step": "end 64", "jump 66; stop": "jump 64", "zero 66": "jump 64",
	} {
		wantDepths(t, top+text, answer)
	}
	for _, text := range []string{"add; me; stop", "call 1; stop", "call 4; me; me; me; stop", "abs; neg; stop", "drop; me; stop", "zero 65; me; stop", "rand; input; tick; stop"} {
		if got := depthsTold(api.Program{Funcs: []api.Routine{{}, {Params: 1}, {}, {}, {Params: 4}}}, api.Routine{Code: instrs(t, top+text)}); !strings.HasPrefix(got, "[") {
			t.Errorf("V2: 64 numbers and %s: %s", text, got)
		}
	}
}

// TestDepthsOfSizes: V2, no instructions, and as many as there may be, and more.
func TestDepthsOfSizes(t *testing.T) {
	for count, answer := range map[int]string{0: "end 0", 1: "end 0", 2: "end 1", 2000: "end 1999", 2001: "code 0", 5000: "code 0"} {
		for _, op := range []int{0, -1, 40, math.MaxInt, math.MinInt, code.Step, code.Spawn} {
			if got := depthsTold(api.Program{}, api.Routine{Code: slices.Repeat([]api.Instr{{Op: op, A: 1}}, count)}); got != answer {
				t.Errorf("V2: %d times the op %d: %s, want %s", count, op, got, answer)
			}
		}
	}
	full := append(slices.Repeat(instrs(t, "tick; drop"), 999), instrs(t, "step; stop")...)
	if got := depthsTold(api.Program{}, api.Routine{Code: full}); got != "["+strings.Repeat("0 1 ", 999)+"0 0]" {
		t.Errorf("V2: 2000 instructions: %.100s", got)
	}
	for _, wrong := range []string{"add", "jump 9", "stop"} {
		if got := depthsTold(api.Program{}, api.Routine{Code: append(instrs(t, wrong), full...)}); got != "code 0" {
			t.Errorf("V2: 2001 instructions, with %s: %.100s", wrong, got)
		}
	}
	if got := depthsTold(api.Program{}, api.Routine{}); got != "end 0" {
		t.Errorf("V2: nothing: %s", got)
	}
}

// TestDepthsHangOnFunctionsAlone: V2, the routine's name, params and locals, the systems, and what the functions do, are all one.
func TestDepthsHangOnFunctionsAlone(t *testing.T) {
	list := instrs(t, "load 31; push 1; call 1; field 9999; stop")
	for _, funcs := range [][]api.Routine{
		{{}, {Params: 2}}, {{Params: -5}, {Params: 2, Locals: -1, Code: []api.Instr{{Op: -1}}}}, {{}, {Params: 2, Name: strings.Repeat("x", 99), Code: instrs(t, "call 1")}}, append([]api.Routine{{}, {Params: 2}}, make([]api.Routine, 100)...),
	} {
		for _, r := range []api.Routine{{Code: list}, {Name: "a very long name that may not be", Params: -1, Locals: -9, Code: list}, {Params: 99, Locals: 99, Code: list}} {
			for _, systems := range [][]api.System{nil, make([]api.System, 40), {{With: []int{-1, 99}}}} {
				if got := depthsTold(api.Program{Systems: systems, Funcs: funcs}, r); got != "[0 1 2 1 2]" {
					t.Errorf("V2: the same code with other things around it: %s", got)
				}
			}
		}
	}
	for params, answer := range map[int]string{-1: "[0 1 2 3 4]", math.MinInt: "[0 1 2 3 4]", 0: "[0 1 2 3 4]", 1: "[0 1 2 2 3]", 2: "[0 1 2 1 2]", 3: "stack 2", 65: "stack 2", math.MaxInt: "stack 2"} {
		if got := depthsTold(api.Program{Funcs: []api.Routine{{}, {Params: params}}}, api.Routine{Code: list}); got != answer {
			t.Errorf("V2: a function of %d params: %s, want %s", params, got, answer)
		}
	}
	if got := depthsTold(api.Program{}, api.Routine{Code: list}); got != "[0 1 2 3 4]" {
		t.Errorf("V2: without functions: %s", got)
	}
}
