package verify_test

import (
	"errors"
	"fmt"
	"math"
	"slices"
	"strings"
	"testing"

	"hindcast/api"
	"hindcast/code"
	"hindcast/verify"
)

// kinds are those of the chapter's examples, and more.
func kinds() []api.Kind {
	return []api.Kind{
		{Name: "Pos", Fields: []string{"x"}},
		{Name: "Vel", Fields: []string{"x"}},
		{Name: "Mark"},
		{Name: "Box", Fields: []string{"a", "b", "c", "x"}},
		{Name: "Pair", Fields: []string{"a", "b"}},
	}
}

// instrs reads instructions with "; " between them.
func instrs(t testing.TB, text string) []api.Instr {
	t.Helper()
	lines := ""
	if text != "" {
		lines = strings.ReplaceAll(text, "; ", "\n") + "\n"
	}
	r, err := code.Read("r 0 0\n" + lines)
	if err != nil {
		t.Fatalf("the test's own code %q: %v", text, err)
	}
	return r.Code
}

// words are instructions, as instrs reads them.
func words(list []api.Instr) string {
	var all []string
	for _, i := range list {
		all = append(all, fmt.Sprint(code.Name(i.Op), " ", i.A))
	}
	return strings.Join(all, "; ")
}

// system reads Vel and Box, writes Pos, Mark and Pair, and has two locals.
func system(t testing.TB, text string) api.System {
	t.Helper()
	return api.System{With: []int{2}, Without: []int{4}, Reads: []int{2, 4}, Writes: []int{1, 3, 5}, Run: api.Routine{Name: "s", Locals: 2, Code: instrs(t, text)}}
}

func systems(t testing.TB, texts ...string) api.Program {
	t.Helper()
	var p api.Program
	for _, text := range texts {
		p.Systems = append(p.Systems, system(t, text))
	}
	return p
}

// with adds functions to a program, which have the params that stand ahead of their code: "2: load 0; ret".
func with(t testing.TB, p api.Program, texts ...string) api.Program {
	t.Helper()
	for _, text := range texts {
		params := int(text[0] - '0')
		p.Funcs = append(p.Funcs, api.Routine{Name: "f", Params: params, Locals: params, Code: instrs(t, text[3:])})
	}
	return p
}

// told is an error as its number and place; of none "taken".
func told(err error) string {
	var f *api.Fault
	if err == nil {
		return "taken"
	}
	if !errors.As(err, &f) || !errors.Is(err, f.Err) {
		return fmt.Sprintf("no fault: %v", err)
	}
	names := map[api.Errno]string{
		api.ErrKinds: "kinds", api.ErrCode: "code", api.ErrKind: "kind", api.ErrAccess: "access", api.ErrJump: "jump", api.ErrLoop: "loop", api.ErrStack: "stack", api.ErrEnd: "end",
	}
	if names[f.Err] == "" {
		return fmt.Sprintf("a strange error: %v", err)
	}
	return fmt.Sprint(names[f.Err], " ", f.At)
}

func want(t *testing.T, what string, p api.Program, want string) {
	t.Helper()
	if got := told(verify.Verify(p, kinds())); got != want {
		t.Errorf("V1: %s: %s, want %s", what, got, want)
	}
}

// wantCode asks of a program of one system.
func wantCode(t *testing.T, text string, answer string) {
	t.Helper()
	want(t, text, systems(t, text), answer)
}

// TestExamples: V1, the chapter's.
func TestExamples(t *testing.T) {
	two := kinds()[:2]
	for _, row := range [][2]string{
		{"step; field 8; field 16; add; put 8; stop", "taken"},
		{"step; field 8; field 16; add; put 16; stop", "access 4"},
		{"step; field 8; field 16; add; put 8", "end 4"},
		{"push 1; jump 0", "stack 0"}, {"jump 0", "end 0"}, {"step; jump 0", "taken"}, {"add; stop", "stack 0"},
		{"zero 1; stop", "stack 0"}, {"zero 5; stop", "jump 0"}, {"stop; add", "taken"},
		{"part 9; stop", "access 0"}, {"push 0; part 9; spawn; stop", "taken"}, {"push 0; part 9; spawn; jump 2", "jump 3"},
	} {
		p := api.Program{Systems: []api.System{{Reads: []int{2}, Writes: []int{1}, Run: api.Routine{Name: "M", Code: instrs(t, row[0])}}}}
		if got := told(verify.Verify(p, two)); got != row[1] {
			t.Errorf("V1: %s: %s, want %s", row[0], got, row[1])
		}
	}
	want(t, "a function that calls itself", with(t, systems(t, "stop"), "0: call 0; ret"), "loop 1")
}

// TestKindsThatMayNotBe: V1 (1), as world.New refuses them, and ahead of all that is wrong with the program.
func TestKindsThatMayNotBe(t *testing.T) {
	bad := api.Program{Systems: make([]api.System, 17)}
	for _, p := range []api.Program{{}, systems(t, "stop"), systems(t, "jump 9"), bad} {
		for i, list := range [][]api.Kind{
			nil, {}, make([]api.Kind, 13), {{Name: ""}}, {{Name: "1a"}}, {{Name: strings.Repeat("a", 17)}}, {{Name: "Pos"}, {Name: "Pos"}},
			{{Name: "Pos", Fields: []string{"x", "x"}}}, {{Name: "Pos", Fields: []string{"a", "b", "c", "d", "e"}}}, {{Name: "Pos", Fields: []string{""}}},
		} {
			if got := told(verify.Verify(p, list)); got != "kinds 0" {
				t.Errorf("V1: the kinds %d, %v: %s", i, list, got)
			}
		}
	}
	want(t, "no program at all", api.Program{}, "taken")
}

// TestProgramsThatMayNotBeWritten: V1 (1), as code.Encode refuses them, ahead of all else.
func TestProgramsThatMayNotBeWritten(t *testing.T) {
	change := map[string]func(p *api.Program){
		"a name of nothing":     func(p *api.Program) { p.Systems[1].Run.Name = "" },
		"a long name":           func(p *api.Program) { p.Funcs[0].Name = strings.Repeat("f", 17) },
		"params below 0":        func(p *api.Program) { p.Funcs[0].Params = -1 },
		"too many params":       func(p *api.Program) { p.Funcs[0].Params, p.Funcs[0].Locals = 5, 5 },
		"too few locals":        func(p *api.Program) { p.Funcs[0].Locals = 1 },
		"too many locals":       func(p *api.Program) { p.Systems[0].Run.Locals = 33 },
		"no op":                 func(p *api.Program) { p.Systems[0].Run.Code[0].Op = 0 },
		"an op of 40":           func(p *api.Program) { p.Funcs[0].Code[0].Op = 40 },
		"an A where there's no": func(p *api.Program) { p.Systems[1].Run.Code[0].A = 1 },
		"the kind 0":            func(p *api.Program) { p.Systems[1].With = []int{0} },
		"the kind 13":           func(p *api.Program) { p.Systems[1].Without = []int{13} },
		"kinds that fall":       func(p *api.Program) { p.Systems[1].Reads = []int{2, 1} },
		"a kind twice":          func(p *api.Program) { p.Systems[1].Writes = []int{1, 1} },
		"too many systems":      func(p *api.Program) { p.Systems = slices.Repeat(p.Systems, 9) },
		"too many functions":    func(p *api.Program) { p.Funcs = slices.Repeat(p.Funcs, 17) },
		"too much code":         func(p *api.Program) { p.Funcs[0].Code = slices.Repeat(p.Funcs[0].Code, 1000) },
	}
	for what, spoil := range change {
		for _, first := range []string{"step; stop", "step; field 99; stop", "step; add", "step; jump 9", "jump 0"} {
			p := with(t, systems(t, first, "step; stop"), "2: load 0; ret")
			p.Systems[1].With = []int{12} // ErrKind, if there were not ErrCode
			spoil(&p)
			want(t, what+" behind "+first, p, "code 0")
		}
	}
	p := systems(t, "step; stop")
	p.Systems = slices.Repeat(p.Systems, 16)
	p = with(t, p, slices.Repeat([]string{"4: load 0; ret"}, 16)...)
	for i := range p.Funcs {
		p.Funcs[i].Name = "\xff\x00 any byte 345"
		p.Funcs[i].Locals = 32
	}
	want(t, "as many routines as there may be", p, "taken")
	p.Funcs[15].Code = append(slices.Repeat(instrs(t, "step"), 2000-16*2-15*2-2), instrs(t, "load 31; ret")...)
	want(t, "as much code as there may be", p, "taken")
	p.Funcs[15].Code = append(instrs(t, "step"), p.Funcs[15].Code...)
	want(t, "more code", p, "code 0")
}

// TestSetsOfKinds: V1 (2), a number above how many kinds there are, in each of the four sets; ahead of all that is wrong with the code.
func TestSetsOfKinds(t *testing.T) {
	first := []string{"stop", "", "field 99", "jump 0", "add", "jump 9"}
	for which := range 4 {
		for kind := 1; kind <= 12; kind++ {
			for _, text := range first {
				p := with(t, systems(t, text, "stop; stop; stop", "stop", "stop"), "0: call 0; ret")
				for _, n := range []int{1, 3} {
					s := &p.Systems[n]
					set := []*[]int{&s.With, &s.Without, &s.Reads, &s.Writes}[which]
					*set = []int{kind}
					if kind > 1 {
						*set = []int{1, kind}
					}
				}
				got := told(verify.Verify(p, kinds()))
				place := fmt.Sprint("kind ", len(p.Systems[0].Run.Code))
				if (kind > 5) != (got == place) {
					t.Errorf("V1: the kind %d in the set %d: %s", kind, which, got)
				}
			}
		}
	}
	p := systems(t, "stop", "stop", "", "", "stop")
	p.Systems[3].Without = []int{6}
	p.Systems[4].With = []int{6}
	want(t, "a kind in a system without code", p, "kind 2")
	if got := told(verify.Verify(systems(t, "stop"), kinds()[:4])); got != "kind 0" {
		t.Errorf("V1: a kind less: %s", got)
	}
}

// wantTouch asks of an instruction that nobody comes to, in a system and in a function.
func wantTouch(t *testing.T, i string, inSystem, inFunction bool) {
	t.Helper()
	behind := ""
	if strings.HasPrefix(i, "part") {
		behind = "; spawn"
	}
	answer := func(may bool, place int) string {
		if may {
			return "taken"
		}
		return fmt.Sprint("access ", place)
	}
	p := with(t, systems(t, "stop; "+i+behind), "0: push 0; ret", "2: push 0; ret")
	want(t, i+" in a system", p, answer(inSystem, 1))
	p = with(t, systems(t, "stop"), "0: push 0; ret", "2: push 0; ret; "+i+behind)
	if strings.HasPrefix(i, "call") { // else it may call itself
		p.Funcs[0], p.Funcs[1] = p.Funcs[1], p.Funcs[0]
		want(t, i+" in a function", p, map[string]string{"call 0": "loop 1", "call 1": "taken"}[i]+map[bool]string{false: "access 3"}[inFunction])
		return
	}
	want(t, i+" in a function", p, answer(inFunction, 5))
}

// TestTouches: V1 (3), what each instruction may touch.
func TestTouches(t *testing.T) {
	for _, i := range []string{"load", "store"} {
		for a, may := range map[int64]bool{0: true, 1: true, 2: false, -1: false, 31: false, math.MaxInt64: false, math.MinInt64: false, 1 << 32: false} {
			wantTouch(t, fmt.Sprint(i, " ", a), may, may)
		}
	}
	for a, may := range map[int64]bool{0: true, 1: true, 2: false, -1: false, math.MaxInt64: false, math.MinInt64: false, 1 << 32: false} {
		wantTouch(t, fmt.Sprint("call ", a), may, may)
	}
	for _, i := range []string{"push -5", "push 9223372036854775807", "add", "sub", "mul", "div", "rem", "neg", "eq", "ne", "lt", "le", "gt", "ge", "not", "jump 0", "jump -1", "zero 77", "step", "rand", "tick", "me", "input", "min", "max", "abs", "drop"} {
		wantTouch(t, i, true, true)
	}
	for _, i := range []string{"emit", "spawn", "die", "stop"} {
		wantTouch(t, i, true, false)
	}
	wantTouch(t, "ret", false, true)
	for a := range int64(120) {
		wantTouchKind(t, a)
	}
	for _, a := range []int64{math.MaxInt64, math.MinInt64, -1, -7, -8, -9, -39, -16, 1<<32 + 8, 1 << 35, 1<<61 + 1, 1<<33 + 1} {
		wantTouchKind(t, a)
	}
}

// wantTouchKind asks of the instructions that speak of kinds, for one number A.
func wantTouchKind(t *testing.T, a int64) {
	t.Helper()
	fields := map[int64]int64{1: 1, 2: 1, 3: 0, 4: 4, 5: 2}
	kind, n := a/8, a%8
	count, is := fields[kind]
	isWritten := kind == 1 || kind == 3 || kind == 5
	wantTouch(t, fmt.Sprint("field ", a), is && n < count, false)
	wantTouch(t, fmt.Sprint("put ", a), is && isWritten && n < count, false)
	wantTouch(t, fmt.Sprint("part ", a), is && n == count, false)
	wantTouch(t, fmt.Sprint("give ", a), is && n == count, false)
	_, is = fields[a]
	wantTouch(t, fmt.Sprint("take ", a), is, false)
	wantTouch(t, fmt.Sprint("has ", a), is, false)
}

// TestTouchesAreTheSystems: V1 (3), each system has its own Reads, Writes and Locals; With and Without do not count.
func TestTouchesAreTheSystems(t *testing.T) {
	for _, row := range []struct {
		i             string
		reads, writes []int
		may           bool
	}{
		{"field 8", nil, nil, false}, {"field 8", []int{1}, nil, true}, {"field 8", nil, []int{1}, true}, {"field 8", []int{2}, []int{3}, false}, {"field 8", []int{1}, []int{1}, true},
		{"put 8", nil, nil, false}, {"put 8", []int{1}, nil, false}, {"put 8", nil, []int{1}, true}, {"put 8", []int{1, 2}, []int{2}, false}, {"put 8", []int{1}, []int{1}, true},
		{"give 9", nil, nil, true}, {"has 1", nil, nil, true}, {"take 1", nil, nil, true},
	} {
		p := systems(t, "stop; "+row.i, "field 8; put 8; load 1; drop; stop")
		p.Systems[0].With, p.Systems[0].Without = []int{1, 2, 3}, []int{1, 2, 3}
		p.Systems[0].Reads, p.Systems[0].Writes = row.reads, row.writes
		p.Systems[0].Run.Locals = 0
		answer := "access 1"
		if row.may {
			answer = "taken"
		}
		want(t, fmt.Sprint(row), p, answer)
	}
	p := with(t, systems(t, "load 1; drop; stop"), "1: load 0; ret", "0: push 0; ret; load 0", "2: load 1; ret")
	want(t, "a function's locals", p, "access 7")
	p.Funcs[1].Locals = 1
	want(t, "a function's locals", p, "taken")
}

// TestRowsOfParts: V1 (3), what stands behind a part and ahead of it.
func TestRowsOfParts(t *testing.T) {
	for text, answer := range map[string]string{
		"stop; part 24":                                 "access 1",
		"stop; part 24; spawn":                          "taken",
		"stop; part 24; part 24":                        "access 2",
		"stop; part 24; part 24; spawn":                 "taken",
		"stop; part 24; step; spawn":                    "access 1",
		"stop; part 24; give 24":                        "access 1",
		"stop; part 24; part 24; stop":                  "access 2",
		"stop; part 24; spawn; part 24; stop":           "access 3",
		"part 24; spawn; stop":                          "taken",
		"part 24; part 24; spawn; part 24; spawn; stop": "taken",
		"stop; part 24; part 25; spawn":                 "access 2",
		"stop; part 24; spawn; spawn; spawn":            "taken",
		"stop; part 26; step":                           "access 1",
	} {
		wantCode(t, text, answer)
	}
	for count := 10; count <= 15; count++ {
		answer := "taken"
		if count > 12 {
			answer = "access 13"
		}
		wantCode(t, "stop"+strings.Repeat("; part 24", count)+"; spawn", answer)
		if count > 12 {
			answer = "access 12"
		}
		wantCode(t, strings.Repeat("part 24; ", count)+"spawn; stop", answer)
	}
	row := strings.Repeat("part 24; ", 12) + "spawn; "
	wantCode(t, row+row+"stop", "taken")
	wantCode(t, row+"part 24; "+row+"stop", "access 25")
	wantCode(t, strings.Repeat("part 24; ", 1000)+"spawn", "access 12")
	wantCode(t, strings.Repeat("part 24; ", 12)+"stop", "access 11")
	want(t, "a row at a system's end goes on in no other one", systems(t, "stop; part 24", "spawn; stop"), "access 1")
	p := systems(t, "stop; "+row+"stop", strings.Repeat("part 24; ", 12)+"spawn; stop")
	want(t, "two rows of twelve in two systems", p, "taken")
}

// TestJumpsIntoParts: V1 (3), a jump to what stands directly behind a part, reached or not, and not to a part that stands first.
func TestJumpsIntoParts(t *testing.T) {
	for text, answer := range map[string]string{
		"part 24; spawn; step; jump 0":                           "taken",
		"part 24; spawn; step; jump 1":                           "jump 3",
		"part 24; spawn; step; jump 2":                           "taken",
		"part 24; part 24; spawn; step; jump 0":                  "taken",
		"part 24; part 24; spawn; step; jump 1":                  "jump 4",
		"part 24; part 24; spawn; step; jump 2":                  "jump 4",
		"part 24; part 24; spawn; step; jump 3":                  "taken",
		"push 1; zero 4; step; part 24; spawn; stop":             "jump 1",
		"push 1; zero 3; step; part 24; spawn; stop":             "taken",
		"push 1; zero 5; step; part 24; spawn; stop":             "taken",
		"part 24; spawn; stop; jump 1":                           "jump 3",
		"stop; zero 3; part 24; spawn":                           "jump 1",
		"stop; jump 2; part 24":                                  "access 2", // there is no instruction 3: the part is what is wrong
		"stop; jump 3; part 24":                                  "access 2",
		"stop; jump 4; jump 5; field 99; part 24; spawn":         "jump 2",
		"stop; jump 4; jump 3; field 99; jump 6; part 24; spawn": "access 3",
		"stop; part 24; push 1; jump 2":                          "access 1",
		"stop; push 2; part 24; spawn":                           "taken",
		"stop; give 24; die; jump 2":                             "taken",
		"stop; part 24; spawn; jump -9223372036854775808":        "taken",
		"stop; part 24; spawn; zero 9223372036854775807":         "taken",
		"stop; part 24; spawn; jump 4294967298":                  "taken",
	} {
		wantCode(t, text, answer)
	}
	want(t, "a jump by another routine's numbers", systems(t, "part 24; spawn; stop", "step; stop; jump 1"), "taken")
	want(t, "a jump in the second routine", systems(t, "stop; stop", "part 24; spawn; stop; jump 1"), "jump 5")
}

// TestCalls: V1 (4), the first function that calls itself, through others or not, reached or not.
func TestCalls(t *testing.T) {
	for _, row := range []struct {
		answer string
		calls  []string // of each function: whom it calls
	}{
		{"taken", []string{"", "0", "01", "012", "0123"}},
		{"taken", []string{"1234", "234", "34", "4", ""}},
		{"loop 0", []string{"0"}},
		{"loop 1", []string{"", "1"}},
		{"loop 1", []string{"1", "1", ""}},
		{"loop 1", []string{"1", "2", "1"}},
		{"loop 0", []string{"1", "2", "0"}},
		{"loop 2", []string{"1", "2", "3", "4", "2"}},
		{"loop 2", []string{"4", "", "34", "2", "3"}},
		{"loop 1", []string{"", "4", "0", "1", "3"}},
		{"loop 3", []string{"1", "", "1", "03", ""}},
		{"taken", []string{"111", "222", "", "012"}},
	} {
		for _, reached := range []bool{true, false} {
			p := systems(t, "step; stop")
			place := 2
			var places []int
			for _, calls := range row.calls {
				text := "0: "
				if !reached {
					text += "push 5; ret; "
				}
				for _, c := range calls {
					text += fmt.Sprintf("call %c; drop; ", c)
				}
				p = with(t, p, text+"push 0; ret")
				places = append(places, place)
				place += len(p.Funcs[len(p.Funcs)-1].Code)
			}
			answer := row.answer
			var n int
			if k, _ := fmt.Sscanf(answer, "loop %d", &n); k == 1 {
				answer = fmt.Sprint("loop ", places[n])
			}
			want(t, fmt.Sprint("functions that call ", row.calls), p, answer)
		}
	}
	chain := systems(t, "call 0; drop; stop")
	for i := range 15 {
		chain = with(t, chain, fmt.Sprintf("0: call %d; ret", i+1))
	}
	chain = with(t, chain, "0: push 1; ret")
	want(t, "sixteen functions, one within the other", chain, "taken")
	chain.Funcs[15].Code = instrs(t, "call 0; ret")
	want(t, "sixteen functions, round", chain, "loop 3")
	chain.Funcs[15].Code = instrs(t, "call 7; ret")
	want(t, "the last ones of them, round", chain, "loop 17")
}

// TestRoutinesInOrder: V1 (5), the first routine that has something wrong; what is wrong with a later one does not show.
func TestRoutinesInOrder(t *testing.T) {
	right, wrong := "step; stop", map[string]string{"": "end 0", "step": "end 0", "add; stop": "stack 0", "step; jump 7": "jump 1", "step; push 0": "end 1", "step; push 0; zero 0": "end 2"}
	for text, answer := range wrong {
		var e string
		var at int
		fmt.Sscan(answer, &e, &at)
		for other := range wrong {
			want(t, text, systems(t, text, other), fmt.Sprint(e, " ", at))
			want(t, text, systems(t, right, text, other), fmt.Sprint(e, " ", at+2))
			ret := strings.NewReplacer("stop", "ret") // a function's end
			want(t, text+" in a function", with(t, systems(t, right, right), "0: "+ret.Replace(text), "0: "+ret.Replace(other)), fmt.Sprint(e, " ", at+4))
		}
	}
	want(t, "a function without code", with(t, systems(t, right), "0: ", "0: push 0; ret"), "end 2")
	want(t, "a function without code behind another one", with(t, systems(t, right), "0: push 0; ret", "0: "), "end 4")
	want(t, "a system without code behind one that is round", systems(t, "jump 0", ""), "end 1")
	want(t, "a system without code, and one with a wrong instruction", systems(t, "jump 0", "", "add; stop"), "end 1")
	want(t, "a system with a wrong instruction, and one without code", systems(t, "jump 0", "add; stop", ""), "stack 1")
}

// TestRulesInOrder: P2 of V1, of faults of several rules the first rule's is told, wherever they stand.
func TestRulesInOrder(t *testing.T) {
	kindless := func(p *api.Program, at int) { p.Systems[at].With = []int{6} }
	rules := []struct {
		word string
		text string
		more func(p *api.Program, at int)
	}{
		{"kind", "step; stop", kindless},
		{"access", "take 9; stop", nil},
		{"stack", "add; stop", nil},
		{"end", "jump 0", nil},
	}
	for i, first := range rules {
		for _, second := range rules[i:] {
			for _, turn := range []bool{false, true} {
				texts := []string{"step; stop", first.text, "step; stop; stop", second.text}
				if turn {
					texts[1], texts[3] = texts[3], texts[1]
				}
				p := with(t, systems(t, texts...), "0: push 1; ret")
				places := map[bool]int{false: 1, true: 3}
				if first.more != nil {
					first.more(&p, places[turn])
				}
				if second.more != nil {
					second.more(&p, places[!turn])
				}
				at := 2
				if turn && first.word != second.word {
					at += len(p.Systems[1].Run.Code) + 3
				}
				want(t, fmt.Sprint(texts), p, fmt.Sprint(first.word, " ", at))
			}
		}
		p := with(t, systems(t, first.text, "stop"), "0: push 1; ret", "0: call 1; ret")
		if first.more != nil {
			first.more(&p, 0)
		}
		answer := fmt.Sprint("loop ", len(p.Systems[0].Run.Code)+3)
		if i < 2 {
			answer = first.word + " 0"
		}
		want(t, first.text+" and a function that calls itself", p, answer)
	}
	want(t, "a jump into parts ahead of a touch", systems(t, "part 24; spawn; step; jump 1", "take 9; stop"), "jump 3")
	want(t, "a touch ahead of a jump into parts", systems(t, "take 9; stop", "part 24; spawn; step; jump 1"), "access 0")
	want(t, "a jump into parts, and a function that calls itself", with(t, systems(t, "part 24; spawn; step; jump 1"), "0: call 0; ret"), "jump 3")
}

// TestRounds: V1 (6), the least place of an instruction to which one may come back without a step or a call.
func TestRounds(t *testing.T) {
	for text, answer := range map[string]string{
		"step; jump 1":                                     "end 1",
		"step; step; jump 1":                               "taken",
		"step; drop; jump 1":                               "stack 1",
		"step; tick; drop; jump 1":                         "end 1",
		"jump 2; step; jump 1":                             "taken",
		"jump 2; jump 0; jump 1":                           "end 0",
		"step; jump 3; jump 4; jump 2; step; stop":         "taken",
		"step; jump 3; jump 3; jump 2; step; stop":         "end 2",
		"tick; zero 0; stop":                               "end 0",
		"tick; zero 3; jump 0; stop":                       "end 0",
		"step; tick; zero 4; jump 0; stop":                 "taken",
		"step; tick; zero 4; jump 1; stop":                 "end 1",
		"call 0; drop; jump 0":                             "taken",
		"call 0; drop; jump 1":                             "stack 1",
		"stop; jump 1":                                     "taken",
		"stop; jump 2; jump 1":                             "taken",
		"jump 1; jump 2; jump 3; stop":                     "taken",
		"jump 4; jump 2; jump 5; stop; jump 1; jump 3":     "taken",
		"jump 4; jump 2; jump 5; stop; jump 1; jump 1":     "end 1",
		"jump 3; tick; zero 5; tick; zero 3; jump 6; stop": "end 3",
		// one round leads to another one by an instruction with a lesser number, which stands in none
		"jump 3; step; jump 6; tick; zero 2; jump 3; tick; zero 6; stop": "end 3",
		"jump 3; jump 6; stop; tick; zero 1; jump 3; tick; zero 6; stop": "end 3",
		"jump 3; jump 6; stop; tick; zero 1; jump 5; tick; zero 3; stop": "end 1",
		// a step on one of two ways is not enough; on both it is
		"tick; zero 4; step; jump 0; jump 0":       "end 0",
		"tick; zero 4; step; jump 0; step; jump 0": "taken",
		"tick; zero 2; jump 0":                     "end 0",
		"step; tick; zero 2; stop":                 "stack 2",
		"tick; tick; zero 1; stop":                 "end 1",
		"tick; tick; zero 0; stop":                 "stack 0",
	} {
		want(t, text, with(t, systems(t, text), "0: tick; ret"), answer)
	}
	want(t, "a round in a later system", systems(t, "step; stop", "step; jump 0", "jump 0", "jump 0"), "end 4")
	want(t, "a round in a function", with(t, systems(t, "step; stop"), "0: tick; ret", "1: load 0; zero 0; tick; ret"), "end 4")
	want(t, "a round in a function by the way of a step", with(t, systems(t, "step; stop"), "0: tick; ret", "1: step; load 0; zero 0; tick; ret"), "taken")
	want(t, "a round in a function by the way of a call", with(t, systems(t, "step; stop"), "0: tick; ret", "1: call 0; zero 0; tick; ret"), "taken")
}

// TestNames: what follows of V1, names do not count.
func TestNames(t *testing.T) {
	for _, text := range []string{"step; field 8; put 8; stop", "part 24; spawn; step; jump 1", "jump 0", "add; stop", "call 0; drop; stop"} {
		p := with(t, systems(t, text), "0: push 0; ret")
		answer := told(verify.Verify(p, kinds()))
		for _, name := range []string{"f", "s", "\x00", "any name at all.", "\xff\xfe", "jump 0", "step"} {
			p.Systems[0].Run.Name, p.Funcs[0].Name = name, name
			want(t, text+" with the name "+name, p, answer)
		}
		other := kinds()
		for i := range other {
			other[i].Name += "_"
		}
		if got := told(verify.Verify(p, other)); got != answer {
			t.Errorf("V1: %s with other kinds' names: %s, want %s", text, got, answer)
		}
	}
}
