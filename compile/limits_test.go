package compile_test

import (
	"fmt"
	"strings"
	"testing"

	"hindcast/api"
	"hindcast/compile"
)

// tower is an expression of just this height, whose last number to be put is that of the leaf (of the height 1). It is nested little.
func tower(height int, leaf string) string {
	if height > 5 {
		return "1 + 2 * four(1, 2, 3, " + tower(height-5, leaf) + ")"
	}
	return strings.Replace([]string{"", "@", "1 + @", "1 + 2 * @", "1 + min(0, 1 + @)", "1 + 2 * min(0, 1 + @)"}[height], "@", leaf, 1)
}

// stackFuncs may be called in the sources of these tests.
const stackFuncs = " func four(a, b, c, d) { } func none() { } func one(a) { }"

// wantStack asks whether a program whose stack is that high is taken, just as far as it may be; the @ in its source is a tower that finds this many numbers on the stack.
func wantStack(t *testing.T, src string, ahead int) {
	t.Helper()
	for _, leaf := range []string{"7", "me", "none()"} {
		fits := strings.ReplaceAll(src, "@", tower(api.MaxStack-ahead, leaf)) + stackFuncs
		if _, e := compile.Compile(checked(t, fits)); e != api.OK {
			t.Errorf("X1: a stack of %d: %s: error %d", api.MaxStack, fits, e)
		}
		higher := strings.ReplaceAll(src, "@", tower(api.MaxStack-ahead+1, leaf)) + stackFuncs
		wantRefused(t, higher, checked(t, higher), api.ErrStack)
	}
}

// TestStackOfExpressions: X1, how high each kind of expression is.
func TestStackOfExpressions(t *testing.T) {
	numbers := map[string]int{
		"@": 0, "(@) + 1": 0, "1 + (@)": 1, "(@) - 1": 0, "1 - (@)": 1, "(@) * 1": 0, "1 * (@)": 1, "(@) / 1": 0, "1 / (@)": 1, "(@) % 1": 0, "1 % (@)": 1,
		"1 + 2 + 3 + (@)": 1, "1 + (2 + (3 + (@)))": 3, "(@) + (@)": 1, "-(@)": 0, "--(1 + -(@))": 1,
		"has(Pos) ? @ : 1": 0, "has(Pos) ? 1 : @": 0, "1 + (has(Pos) ? 1 : (2 + (@)))": 2, "(@) == 1 ? 1 : 2": 0, "1 == (@) ? 1 : 2": 1, "has(Pos) ? has(Vel) ? @ : 1 : 2": 0,
		"one(@)": 0, "four(@, 1, 2, 3)": 0, "four(0, @, 2, 3)": 1, "four(0, 1, @, 3)": 2, "four(0, 1, 2, @)": 3, "four(0, one(@), 2, 3)": 1, "four(@, @, 0, 0)": 1,
		"rand(@)": 0, "abs(@)": 0, "input(@, 1)": 0, "input(1, @)": 1, "min(@, 1)": 0, "min(1, @)": 1, "max(@, 1)": 0, "max(1, @)": 1,
	}
	truths := map[string]int{
		"(@) == 1": 0, "1 == (@)": 1, "(@) != 1": 0, "1 != (@)": 1, "(@) < 1": 0, "1 < (@)": 1, "(@) <= 1": 0, "1 <= (@)": 1, "(@) > 1": 0, "1 > (@)": 1, "(@) >= 1": 0, "1 >= (@)": 1,
		"(@) == 1 && has(Pos)": 0, "has(Pos) && (@) == 1": 0, "has(Pos) && 1 == (@)": 1, "(@) == 1 || has(Pos)": 0, "has(Pos) || (@) == 1": 0, "has(Pos) || has(Vel) || 1 == (@)": 1,
		"!((@) == 1)": 0, "!(1 == (@))": 1, "has(Pos) ? (@) == 1 : has(Vel)": 0, "has(Pos) ? has(Vel) : 1 < (@)": 1, "(has(Pos) && 1 < (@)) ? has(Vel) : has(Pos)": 1,
	}
	for e, ahead := range numbers {
		wantStack(t, "system M { let a = "+e+"; }", ahead)
	}
	for e, ahead := range truths {
		wantStack(t, "system M { if "+e+" { } }", ahead)
	}
}

// TestStackOfStatements: X1, how high each statement is, wherever it stands.
func TestStackOfStatements(t *testing.T) {
	for src, ahead := range map[string]int{
		"let a = @;": 0, "let a = 1; a = @;": 0, "Pos.x = @;": 0,
		"if (@) == 1 { }": 0, "while (@) == 1 { }": 0, "repeat @ { }": 0, "while 1 == (@) { }": 1, "repeat 1 - (@) { }": 1,
		"emit @, 1;": 0, "emit 1, @;": 1, "emit @, @;": 1,
		"spawn Pos{x: @};": 0, "spawn Pos{x: 1}, Vel{x: @};": 1, "spawn Pos{}, Vel{x: @};": 1, "spawn Vel{x: @}, Pos{};": 0, "spawn Mark{}, Vel{x: @};": 0,
		"spawn Box{a: @};": 0, "spawn Box{b: @};": 1, "spawn Box{c: @};": 2, "spawn Box{x: @};": 3, "spawn Box{a: 1, b: @, c: 2};": 1,
		"spawn Pair{}, Box{a: @};": 2, "spawn Pair{a: 1}, Pos{}, Mark{}, Box{x: @};": 6,
		"add Pos{x: @};": 0, "add Box{x: @};": 3, "add Box{a: @, x: @};": 3, "add Pair{a: @};": 0,
		"die; stop; let a = @;": 0, "let a = @; die; remove Pos; stop;": 0, "repeat 3 { } emit 1, @;": 1,
	} {
		wantStack(t, "system M writes Pos { "+src+" }", ahead)
		for _, around := range []string{"if has(Pos) { # }", "if has(Pos) { } else { # }", "if has(Pos) { } else if has(Vel) { # }", "if has(Pos) { } else if has(Vel) { } else { # die; }", "while has(Pos) { # }", "repeat 2 { # }", "repeat 2 { while has(Pos) { if has(Vel) { } else { # } } }"} {
			wantStack(t, "system M writes Pos { "+strings.ReplaceAll(around, "#", src)+" }", ahead)
		}
	}
	wantStack(t, "system M { if has(Pos) { } else if 1 < (@) { } }", 1)
	wantStack(t, "system L { } func f(a) { } system M { emit 1, @; } system N { die; }", 1)
}

// TestStackOfFunctions: X1, functions have their own stacks, which are as high as those of systems may be.
func TestStackOfFunctions(t *testing.T) {
	for src, ahead := range map[string]int{
		"return @;": 0, "return 1 - (@);": 1, "let a = @;": 0, "let a = 1; a = @;": 0, "if (@) == 1 { return 1; } else { return 1 + (@); }": 1, "while 1 < (@) { }": 1, "repeat @ { return @; }": 0, "return 0; return @;": 0,
	} {
		wantStack(t, "func f(a0, a1, a2, a3) { "+src+" } system M { }", ahead)
		wantStack(t, "system M { } func e() { } func f() { "+src+" }", ahead)
	}
	inner := tower(api.MaxStack, "g()")
	src := "func g() { return " + tower(api.MaxStack, "8") + "; } system M { let a = " + inner + "; }" + stackFuncs
	if _, e := compile.Compile(checked(t, src)); e != api.OK {
		t.Errorf("X1: the stack of a function stands on that of who calls it: error %d", e)
	}
}

// TestStackOfManyParts: X1, as many values as there may be.
func TestStackOfManyParts(t *testing.T) {
	var list []api.Kind
	var parts []string
	for i := range api.MaxKinds {
		list = append(list, api.Kind{Name: fmt.Sprint("K", i), Fields: []string{"a", "b", "c", "d"}})
		parts = append(parts, fmt.Sprint("K", i, "{}"))
	}
	want := "step, " + strings.Repeat("push 0, ", 48)
	for i := range api.MaxKinds {
		want += fmt.Sprint("part ", (12-i)*8+4, ", ")
	}
	p, e := compile.Compile(checkedFor(t, "system M { spawn "+strings.Join(parts, ", ")+"; }", list))
	if e != api.OK || words(p.Systems[0].Run.Code) != want+"spawn, stop" {
		t.Errorf("X1: a spawn of all kinds: error %d, %s", e, told(p))
	}
	for height := 1; height <= 20; height++ {
		parts[11] = "K11{d: " + tower(height, "1") + "}"
		c := checkedFor(t, "system M { spawn "+strings.Join(parts, ", ")+"; }"+stackFuncs, list)
		if height > 17 {
			wantRefused(t, "a spawn of all kinds", c, api.ErrStack)
		} else if _, e := compile.Compile(c); e != api.OK {
			t.Errorf("X1: a spawn of all kinds, of the height %d: error %d", 47+height, e)
		}
	}
}

// TestTowers: the tests' own towers are as high as they say, by the code that is made of them.
func TestTowers(t *testing.T) {
	for height := 1; height <= api.MaxStack; height++ {
		for _, leaf := range []string{"7", "none()"} {
			p := compiled(t, "system M { let a = "+tower(height, leaf)+"; }"+stackFuncs)
			_, most := depths(t, p, p.Systems[0].Run)
			if most != height {
				t.Errorf("the tower of %d comes to %d", height, most)
			}
		}
	}
}

// fill is a statement of just this many instructions, three or more.
func fill(count int, name string) string {
	if count%2 == 0 {
		return "let " + name + "=-1" + strings.Repeat("+1", (count-4)/2) + ";"
	}
	return "let " + name + "=1" + strings.Repeat("+1", (count-3)/2) + ";"
}

// TestLength: X1, all routines together have MaxCode instructions at most.
func TestLength(t *testing.T) {
	for _, form := range []struct {
		src   string
		sizes []int // of statements; the last is what is left
		ahead int   // instructions beside the statements
	}{
		{"system M { # }", nil, 1},
		{"func f() { # }", nil, 2},
		{"system M { } system N { # } system O { }", nil, 3},
		{"system M { # } system N { # }", []int{1000}, 2},
		{"func f() { # } func g(a) { # } system M { # }", []int{600, 701}, 5},
		{"func f() { } system M { # } func g() { # }", []int{4}, 5},
		{"system M { # } func g() { # }", []int{1500}, 3},
		{"system M { if has(Pos) { # } else { # } }", []int{998}, 5},
		{"system M { # repeat 2 { # } while has(Pos) { # } }", []int{400, 900}, 19},
		{"system M { spawn Box{}, Pos{}; # }", nil, 10},
	} {
		for total := api.MaxCode - 2; total <= api.MaxCode+2; total++ {
			src, left := form.src, total-form.ahead
			for i := range len(form.sizes) + 1 {
				size := left
				if i < len(form.sizes) {
					size = form.sizes[i]
				}
				left -= size
				src = strings.Replace(src, "#", fill(size, fmt.Sprint("v", i)), 1)
			}
			c := checked(t, src)
			if total > api.MaxCode {
				wantRefused(t, fmt.Sprint(total, " instructions of ", form.src), c, api.ErrLong)
			} else if p, e := compile.Compile(c); e != api.OK || length(p) != total {
				t.Errorf("X1: %s of %d instructions: error %d, %d instructions", form.src, total, e, length(p))
			}
		}
	}
}

func length(p api.Program) int {
	all := 0
	for _, s := range p.Systems {
		all += len(s.Run.Code)
	}
	for _, f := range p.Funcs {
		all += len(f.Code)
	}
	return all
}

// TestStackBeforeLength: X1 and P2, of both errors the stack's is told, wherever it stands.
func TestStackBeforeLength(t *testing.T) {
	long := fill(1500, "v") + " " + fill(1500, "w")
	high := "let h = " + tower(api.MaxStack+1, "1") + ";"
	for _, src := range []string{
		"system M { # @ }", "system M { @ # }", "system M { # } system N { @ }", "system M { @ } func f() { # }", "func f() { @ } system M { # }", "system M { # } func f() { @ }", "func f() { # } func g() { @ }",
	} {
		both := strings.NewReplacer("#", long, "@", high).Replace(src) + stackFuncs
		wantRefused(t, src, checked(t, both), api.ErrStack)
		wantRefused(t, src, checked(t, strings.NewReplacer("#", long, "@", "").Replace(src)), api.ErrLong)
	}
}

// TestGreatSources: P1 and X1, sources as great as they may be: rows of signs, statements, systems and functions.
func TestGreatSources(t *testing.T) {
	wantRefused(t, "a long row of signs", checked(t, "system M{let a=1"+strings.Repeat("+1", 3980)+";}"), api.ErrLong)
	wantRefused(t, "a long row of minus", checked(t, "system M{let a=1"+strings.Repeat("+-1", 2650)+";}"), api.ErrLong)
	p := compiled(t, "system M{"+strings.Repeat("die;", api.MaxStmts)+"}")
	if got := words(p.Systems[0].Run.Code); got != strings.Repeat("step, die, ", api.MaxStmts)+"stop" {
		t.Errorf("X1: many statements: %.200s", got)
	}
	p = compiled(t, "system M{if has(Pos){}"+strings.Repeat("else if has(Vel){}", api.MaxStmts-1)+"}")
	if got := p.Systems[0].Run.Code; len(got) != 4*api.MaxStmts || got[3] != (api.Instr{Op: 19, A: int64(4*api.MaxStmts - 1)}) || got[2] != (api.Instr{Op: 20, A: 4}) {
		t.Errorf("X1: many ifs behind else: %d instructions, %v", len(got), got[:4])
	}
	var src strings.Builder
	for i := range api.MaxSystems {
		fmt.Fprintf(&src, "system S%d { let a = f%d(); } func f%d() { return %d; } ", i, 15-i, i, i)
	}
	p = compiled(t, src.String())
	for i := range api.MaxSystems {
		if s := words(p.Systems[i].Run.Code); s != fmt.Sprintf("step, call %d, store 0, stop", 15-i) {
			t.Errorf("X1: the system %d of many: %s", i, s)
		}
		if f := words(p.Funcs[i].Code); f != fmt.Sprintf("step, push %d, ret, push 0, ret", i) {
			t.Errorf("X1: the function %d of many: %s", i, f)
		}
	}
}
