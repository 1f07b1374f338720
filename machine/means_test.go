package machine_test

import (
	"fmt"
	"math/rand"
	"slices"
	"strings"
	"testing"

	"hindcast/api"
	"hindcast/check"
	"hindcast/compile"
	"hindcast/machine"
	"hindcast/syntax"
	"hindcast/verify"
	"hindcast/walk"
)

// sources have all there is in the language; of the kinds of these tests.
var sources = []string{
	"system M { }", "system M { stop; die; stop; }", "func f() { } system M { emit f(), 1; }",
	"system M reads K2 writes K1 { K1.a = K1.a + K2.b; emit me, tick; }",
	"system M { let i = 0; while i < 3 { i = i + 1; } }", "system M { while 1 == 1 { } }", "system M { repeat 3 { repeat 4 { } die; } }", "system M { repeat 0 - 1 { die; } }",
	"system M { repeat 1998 { } }", "system M { repeat 1999 { } }", "system M { repeat 2000 { } }", "system M { repeat 17 { emit 0, 0; } }", "system M { repeat 17 { remove K1; } }", "system M { repeat 16 { add K5{}; emit tick, me; } }",
	"func f(a) { repeat a { } return a; } system M { emit f(990), f(990); }", "func f(a) { repeat a { } return a; } system M { emit f(998), f(997); }", "func f(a) { repeat a { } return a; } system M { emit f(998), f(998); }",
	"system M writes K1 { repeat 3 { K1.a = K1.a * -3; } spawn K2{b: K1.a}, K1{}; stop; die; }",
	"system M { spawn K4{a: 2, d: 1}, K1{a: me}, K5{}, K10{}, K12{}; spawn; add K3{a: 1 % 0, c: 1 / 0}; remove K12; add K5{}; }",
	"system M writes K1, K2, K3, K4 { K4.d = 9223372036854775807 + 1; emit K4.d / -1, K4.d % -1; emit abs(K4.d), -K4.d; K3.c = K4.d - 1; K2.a = K3.c * K3.c; emit 7 / -2, -7 % 2; }",
	"system M { emit 1 < 2 ? 1 : 0, 2 <= 1 ? 1 : 0; emit 1 > 2 ? 1 : 0, 2 >= 1 ? 1 : 0; emit 1 == 2 ? 1 : 0, 1 != 2 ? 1 : 0; emit !(1 == 1) ? 1 : 0, min(3, -3); emit max(3, -3), abs(-3); }",
	"func f(a) { return a * 2; } system M { if f(1) == 2 || f(2) == 0 { } if f(1) == 2 && f(2) == 0 { die; } else if f(3) == 6 { emit 1, 1; } else { emit 2, 2; } }",
	"func f(a) { if a > 0 { return a; } } func g(a) { while a < 9 { a = a + f(a) + 1; if a == 8 { return 3; } } } system M { emit g(0), g(1); emit f(0), f(5); }",
	"system M { emit rand(6), rand(100); emit rand(0), rand(-3); emit rand(9223372036854775807), input(1, 2); emit input(-1, 0), input(rand(3), rand(3)); }",
	"system M { if has(K1) { emit 1, 1; } if has(K12) { emit 12, 12; } emit has(K5) ? 1 : 0, has(K7) && has(K8) ? 1 : 0; }",
	`func f(a) { let b = rand(a); repeat b { b = b - 1; } if a < b && a != 2 || !(a == 1) { return min(a, -b); } else if a > 3 { return abs(a / b); } return b + input(1, 2); }
system A with K2 without K5 reads K9, K3 writes K1 {
	K1.a = f(9) * K9.c % 3; let v = 0;
	while v <= 3 { spawn K9{a: 1, d: K1.a}, K5{}, K3{b: f(4)}; add K3{a: K9.a}; add K5{}; v = v + 1; }
	if has(K5) ? v >= 1 : 1 == 2 { stop; } else { remove K1; die; emit K1.a, f(max(tick, me)); }
}
func g() { return f(h(3)); }
func h(x) { }
system B writes K2, K5 { K2.b = g(); emit h(1), g(); }`,
}

// chainSource has sixteen functions, each of which calls the next one.
func chainSource() string {
	src := "system M writes K1 { K1.a = f0(1, 2, 3, 4); } "
	for i := range 15 {
		src += fmt.Sprintf("func f%d(a, b, c, d) { let e = f%d(b, c, d, a + 1); return e * 2 + a; } ", i, i+1)
	}
	return src + "func f15(a, b, c, d) { return a - b * c + d; }"
}

func checked(t testing.TB, src string) *check.Checked {
	t.Helper()
	tree, err := syntax.Parse(src)
	if err != nil {
		t.Fatalf("the test's own source %s: %v", src, err)
	}
	c, err := check.Check(tree, kinds())
	if err != nil {
		t.Fatalf("the test's own source %s: %v", src, err)
	}
	return c
}

func compiled(t testing.TB, c *check.Checked) api.Program {
	t.Helper()
	p, e := compile.Compile(c)
	if e != api.OK {
		t.Fatalf("the test's own source is not compiled: %v", e)
	}
	if err := verify.Verify(p, kinds()); err != nil {
		t.Fatalf("P7: what is compiled is not taken: %v, %s", err, shown(p))
	}
	return p
}

// TestMeans: P6, what walking a tree does, its compiled program does, step by step counted; and printing and reading the source again changes nothing.
func TestMeans(t *testing.T) {
	long := "system M { while " + strings.Repeat("rand(9) + ", 300) + "1 > 0 { } }"
	ends := map[api.Errno]int{}
	for n, src := range append(slices.Clone(sources), chainSource(), long) {
		c := checked(t, src)
		again := checked(t, syntax.Print(c.Tree()))
		p, q := compiled(t, c), compiled(t, again)
		for seed := range 16 {
			e := someEnv(rand.New(rand.NewSource(int64(n*100 + seed))))
			for system := range p.Systems {
				byTree := walk.Run(c, system, e)
				ends[byTree.Err]++
				want := told(byTree)
				for what, o := range map[string]api.Outcome{"its code": machine.Run(p, system, e), "printed, its code": machine.Run(q, system, e), "printed, its tree": walk.Run(again, system, e)} {
					if got := told(o); got != want {
						t.Fatalf("P6: %s\nthe system %d for %v\nby %s: %s\nby its tree: %s", src, system, e, what, got, want)
					}
				}
			}
		}
	}
	for _, e := range []api.Errno{api.OK, api.ErrAccess, api.ErrFuel, api.ErrLong} {
		if ends[e] < 5 {
			t.Errorf("the test's own sources end in too few ways: %v", ends)
		}
	}
}

// wholeEnv gives an entity that has all kinds, with as many values as they have fields.
func wholeEnv(r *rand.Rand) api.Env {
	e := someEnv(r)
	e.Row.Parts = nil
	for k := 1; k <= 12; k++ {
		e.Row.Parts = append(e.Row.Parts, somePart(r, k, k%5))
	}
	return e
}

// TestVerified: P7, what verify takes is never cut off but by ErrFuel and ErrLong; what it does not take may be cut off by all else.
func TestVerified(t *testing.T) {
	taken, refused := map[api.Errno]int{}, map[api.Errno]int{}
	for seed := range 4000 {
		r := rand.New(rand.NewSource(int64(seed)))
		p := grow(r)
		for range seed % 3 {
			spoil(r, &p)
		}
		ends := refused
		if verify.Verify(p, kinds()) == nil {
			ends = taken
		}
		for system, s := range p.Systems {
			e := wholeEnv(r)
			e.Row.Parts = slices.DeleteFunc(e.Row.Parts, func(part api.Part) bool { // what it neither reads nor writes need not be there
				return !slices.Contains(s.Reads, part.Kind) && !slices.Contains(s.Writes, part.Kind) && r.Intn(2) == 0
			})
			ends[machine.Run(p, system, e).Err]++
			for why := range taken {
				if why != api.OK && why != api.ErrFuel && why != api.ErrLong {
					t.Fatalf("P7: a program that is taken is cut off by %v: %s", why, shown(p))
				}
			}
		}
	}
	if taken[api.OK] < 500 || taken[api.ErrFuel] < 50 || taken[api.ErrLong] < 50 {
		t.Errorf("the test's own programs that are taken end in too few ways: %v", taken)
	}
	for _, e := range []api.Errno{api.ErrJump, api.ErrStack, api.ErrAccess, api.ErrEnd} {
		if refused[e] < 20 {
			t.Errorf("the test's own programs that are refused end in too few ways: %v", refused)
		}
	}
}
