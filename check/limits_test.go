package check_test

import (
	"fmt"
	"strings"
	"testing"

	"hindcast/api"
	"hindcast/check"
	"hindcast/syntax"
)

// TestSlots: C1, the slot of the number MaxLocals is one too many, of lets and repeats in any mixture, behind any number of parameters.
func TestSlots(t *testing.T) {
	for params := -1; params <= api.MaxParams; params++ { // -1: a system
		head, has := "system M { ", 0
		if params >= 0 {
			head, has = "func f("+strings.Join([]string{"p", "q", "r", "s"}[:params], ", ")+") { ", params
		}
		for mixture := range 3 {
			for _, slots := range []int{api.MaxLocals - 1, api.MaxLocals, api.MaxLocals + 1, api.MaxLocals + 5} {
				var b strings.Builder
				for i := has; i < slots; i++ {
					if i == api.MaxLocals {
						b.WriteString("@")
					}
					if (i+mixture)%3 == 0 || mixture == 2 {
						fmt.Fprintf(&b, "let v%d = %d; ", i, i)
					} else {
						b.WriteString("repeat 1 { } ")
					}
				}
				src := head + b.String() + "}"
				if slots > api.MaxLocals {
					wantFault(t, src, api.ErrLong)
					continue
				}
				if got := wantTaken(t, src).Tree().L[0].Num; got != int64(slots) {
					t.Errorf("C2: %s has %d locals, want %d", src, got, slots)
				}
			}
		}
	}
}

// TestFullSlots: C1, where all slots are taken: what comes ahead of ErrLong, and what behind it.
func TestFullSlots(t *testing.T) {
	var b strings.Builder
	for i := range api.MaxLocals {
		fmt.Fprintf(&b, "let v%d = 0; ", i)
	}
	full := b.String()
	wantFault(t, "system M { "+full+"@let v0 = z; }", api.ErrTwice)
	wantFault(t, "system M { "+full+"@let v32 = z; }", api.ErrLong)
	wantFault(t, "system M { "+full+"@let v32 = 1 < 2; }", api.ErrLong)
	wantFault(t, "system M { "+full+"@repeat z { x = 1; } }", api.ErrLong)
	wantFault(t, "system M { "+full+"@repeat 1 < 2 { } }", api.ErrLong)
	wantFault(t, "system M { if 1 < 2 { "+full+"} @let v0 = 0; }", api.ErrLong)
	wantFault(t, "system M { if 1 < 2 { "+full+"} else { @repeat 1 { } } }", api.ErrLong)
	wantFault(t, "system M { while 1 < 2 { "+full+"v31 = v0; } @v31 = 1; }", api.ErrName)
	wantFault(t, "func f() { "+full+"@stop; }", api.ErrState)
	c := wantTaken(t, "system M { "+full+"v31 = v30; } func f() { "+full+"return v31; } system N { "+full+"}")
	if s, f := c.Systems(), c.Funcs(); s[0].Run.Locals != 32 || s[1].Run.Locals != 32 || f[0].Locals != 32 {
		t.Errorf("C3: not all have 32 locals: %v, %v", s, f)
	}
	last := c.Tree().L[0].L[4].L[32]
	if last.Num != 31 || last.L[0].Num != 30 {
		t.Errorf("C2: v31 = v30 is %s", show(last))
	}
}

// TestManyKinds: C1 to C3, twelve kinds of four fields.
func TestManyKinds(t *testing.T) {
	list := manyKinds(api.MaxKinds)
	for i := range api.MaxKinds {
		for k, field := range list[i].Fields {
			src := fmt.Sprintf("system M writes K%d { K%d.%s = K%d.%s; add K%d{%s: 1}; }", i, i, field, i, field, i, field)
			c, err := check.Check(parse(t, src), list)
			if err != nil {
				t.Fatalf("C1: %s: %v", src, err)
			}
			block := c.Tree().L[0].L[4]
			for _, n := range []*node{block.L[0], block.L[0].L[1], block.L[1].L[0]} {
				if n.Num != int64(i+1) || n.L[0].Num != int64(k) {
					t.Errorf("C2: %s: %s", src, show(n))
				}
			}
		}
	}
	all := "K0{}"
	for i := 1; i < api.MaxKinds; i++ {
		all += fmt.Sprintf(", K%d{}", i)
	}
	if _, err := check.Check(parse(t, "system M { spawn "+all+"; }"), list); err != nil {
		t.Errorf("C1: all kinds in a spawn: %v", err)
	}
	for i := range api.MaxKinds {
		src := fmt.Sprintf("system M { spawn %s, K%d{}; }", all, i)
		c, err := check.Check(parse(t, src), list)
		wantError(t, src, c, err, strings.LastIndex(src, "K"), api.ErrTwice)
	}
}

// TestManyMembers: C1 to C3, as many systems and functions as there may be.
func TestManyMembers(t *testing.T) {
	var b strings.Builder
	for i := range api.MaxSystems {
		fmt.Fprintf(&b, "system m%d { emit m%d(%d), 1; } func m%d(a) { return %s; } ", i, api.MaxFuncs-1-i, i, i, []string{"a", fmt.Sprintf("m%d(a)", i-1)}[min(i, 1)])
	}
	c := wantTaken(t, b.String())
	systems, funcs := c.Systems(), c.Funcs()
	if len(systems) != 16 || len(funcs) != 16 {
		t.Fatalf("C3: %d systems, %d functions", len(systems), len(funcs))
	}
	for i := range 16 {
		if name := fmt.Sprint("m", i); systems[i].Run.Name != name || funcs[i].Name != name || funcs[i].Params != 1 || funcs[i].Locals != 1 {
			t.Errorf("C3: of the number %d: %v, %v", i, systems[i], funcs[i])
		}
		if call := c.Tree().L[2*i].L[4].L[0].L[0]; call.Op != syntax.Call || call.Num != int64(15-i) {
			t.Errorf("C2: the call of m%d has the number %d", 15-i, call.Num)
		}
	}
}

// TestLongRounds: C1, a round through some functions, wherever it begins and ends, beside chains that lead there or come from there.
func TestLongRounds(t *testing.T) {
	for first := range api.MaxFuncs {
		for last := range api.MaxFuncs {
			for _, back := range []bool{false, true} {
				// Each calls the next one (or the one ahead); besides, one calls another one.
				var b strings.Builder
				for i := range api.MaxFuncs {
					next := i + 1
					if back {
						next = i - 1
					}
					calls := "1"
					if next >= 0 && next < api.MaxFuncs {
						calls = fmt.Sprintf("f%d()", next)
					}
					if i == last {
						calls += fmt.Sprintf(" + f%d()", first)
					}
					round := first <= last
					if back {
						round = last <= first
					}
					if round && i == min(first, last) {
						b.WriteString("@")
					}
					fmt.Fprintf(&b, "func f%d() { return %s; } ", i, calls)
				}
				if src := b.String(); strings.Contains(src, "@") {
					wantFault(t, src, api.ErrLoop)
				} else {
					wantTaken(t, src)
				}
			}
		}
	}
}

// TestDeep: C1, blocks and expressions as deep, and sources as long, as they may be.
func TestDeep(t *testing.T) {
	// Nineteen ifs and their system's block: what each declares is known in all within, and in none without.
	open, shut := "", ""
	for i := range api.MaxNesting - 1 {
		open += fmt.Sprintf("let v%d = 1; if v%d == 1 { ", i, i)
		shut += "} "
	}
	wantTaken(t, "system M { "+open+"v0 = v18; "+shut+"v0 = 1; }")
	wantFault(t, "system M { "+open+shut[2:]+"@v18 = 1; } }", api.ErrName)
	wantFault(t, "system M { "+open+"@let v0 = 1; "+shut+"}", api.ErrTwice)

	long := strings.Repeat("1+", 3900)
	wantTaken(t, "func f() { return "+long+"1; }")
	wantFault(t, "func f() { return "+long+"@z; }", api.ErrName)
	wantFault(t, "func f() { return @z+"+long+"1; }", api.ErrName)
	ands := strings.Repeat("1<2&&", 1500)
	wantTaken(t, "func f() { if "+ands+"1<2 { } }")
	wantFault(t, "func f() { if "+ands+"@1 { } }", api.ErrType)

	signs := strings.Repeat("-", 19)
	wantTaken(t, "func f() { return "+signs+"1; }")
	wantFault(t, "func f() { return "+signs+"@z; }", api.ErrName)
	conds := strings.Repeat("1<2?1:", 19)
	wantTaken(t, "func f() { return "+conds+"1; }")
	wantFault(t, "func f() { return "+conds+"1@<2; }", api.ErrType)
	wantFault(t, "func f() { if "+strings.Repeat("1<2?2<3:", 18)+"@1 { } }", api.ErrType)

	// As many statements as there may be, in one chain and one behind the other.
	chain := "if 1<2 { } " + strings.Repeat("else if 2<3 { } ", api.MaxStmts-2)
	wantTaken(t, "system M { "+chain+"else { die; } }")
	wantFault(t, "system M { "+chain+"else { @z=1; } }", api.ErrName)
	wantTaken(t, "system M { let a = 1; "+strings.Repeat("a = a; ", api.MaxStmts-1)+"}")
	wantFault(t, "system M { let a = 1; "+strings.Repeat("a = a; ", api.MaxStmts-2)+"a = @b; }", api.ErrName)
}
