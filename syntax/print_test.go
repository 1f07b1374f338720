package syntax_test

import (
	"math"
	"math/rand"
	"slices"
	"strings"
	"testing"

	"hindcast/api"
	"hindcast/lex"
	"hindcast/syntax"
)

type node = syntax.Node

func num(n int64) *node { return &node{Op: syntax.Number, Num: n} }

func name(text string) *node { return &node{Op: syntax.Name, Text: text} }

func mk(op int, text string, children ...*node) *node { return &node{Op: op, Text: text, L: children} }

// inBlock is a program of one function with these statements.
func inBlock(statements ...*node) *node {
	return mk(syntax.Program, "", mk(syntax.Func, "f", mk(syntax.Clause, "func"), mk(syntax.Block, "", statements...)))
}

// returning is a program of one function that returns an expression.
func returning(e *node) *node { return inBlock(mk(syntax.Return, "", e)) }

func wantPrint(t *testing.T, n *node, want string) {
	t.Helper()
	if got := syntax.Print(n); got != want {
		t.Errorf("Y2: Print: %.300q, want %.300q", got, want)
	}
}

// wantExpression holds an expression's source against this one.
func wantExpression(t *testing.T, e *node, want string) {
	t.Helper()
	wantPrint(t, returning(e), "func f() {\n\treturn "+want+";\n}\n")
}

// TestPrintHeads: Y2, systems and functions.
func TestPrintHeads(t *testing.T) {
	for src, want := range map[string]string{
		"": "", "// x": "", "system S{}": "system S {\n}\n", "func f(){}": "func f() {\n}\n", "func f(a){}": "func f(a) {\n}\n", "func f(a,b,c){}func g(){}": "func f(a, b, c) {\n}\nfunc g() {\n}\n",
		"system Move with A,B reads C{}": "system Move with A, B reads C {\n}\n", "system S with A{}": "system S with A {\n}\n", "system S without A{}": "system S without A {\n}\n", "system S writes A,B,C{}": "system S writes A, B, C {\n}\n",
		"system S with A without B reads C writes D{}func f(){}system T{}": "system S with A without B reads C writes D {\n}\nfunc f() {\n}\nsystem T {\n}\n",
	} {
		wantPrint(t, parse(t, src), want)
	}
}

// TestPrintStatements: Y2, each kind of statement, with its tabs.
func TestPrintStatements(t *testing.T) {
	for src, want := range map[string]string{
		"let x=1;": "let x = 1;\n", "x=1;": "x = 1;\n", "Pos.x=1;": "Pos.x = 1;\n", "emit 1,2;": "emit 1, 2;\n", "spawn;": "spawn;\n", "spawn A{x:1,y:2},B{};": "spawn A{x: 1, y: 2}, B{};\n", "spawn A{};": "spawn A{};\n",
		"add A{};": "add A{};\n", "add A{x:1,y:a?b:c};": "add A{x: 1, y: a ? b : c};\n", "remove A;": "remove A;\n", "die;": "die;\n", "stop;": "stop;\n", "return 1;": "return 1;\n", "die;stop;": "die;\n\tstop;\n",
		"while a{}": "while a {\n\t}\n", "repeat(a){die;}": "repeat a {\n\t\tdie;\n\t}\n", "if a{}": "if a {\n\t}\n", "if a?b:c{}": "if a ? b : c {\n\t}\n", "if a{}else{}": "if a {\n\t} else {\n\t}\n",
		"if a{die;}else{stop;}die;":           "if a {\n\t\tdie;\n\t} else {\n\t\tstop;\n\t}\n\tdie;\n",
		"if a{die;}else if b{stop;}":          "if a {\n\t\tdie;\n\t} else if b {\n\t\tstop;\n\t}\n",
		"if a{}else if b{}else if c{}else{}":  "if a {\n\t} else if b {\n\t} else if c {\n\t} else {\n\t}\n",
		"if a{}else{if b{}else{}}":            "if a {\n\t} else {\n\t\tif b {\n\t\t} else {\n\t\t}\n\t}\n",
		"while a{repeat 2{if b{die;}}}":       "while a {\n\t\trepeat 2 {\n\t\t\tif b {\n\t\t\t\tdie;\n\t\t\t}\n\t\t}\n\t}\n",
		"if a{while b{}}else if c{while d{}}": "if a {\n\t\twhile b {\n\t\t}\n\t} else if c {\n\t\twhile d {\n\t\t}\n\t}\n",
	} {
		wantPrint(t, parse(t, "func f(){"+src+"}"), "func f() {\n\t"+want+"}\n")
		wantPrint(t, parse(t, "system S with A{"+src+"}"), "system S with A {\n\t"+want+"}\n")
	}
}

// TestPrintExpressions: Y2, blanks and parentheses.
func TestPrintExpressions(t *testing.T) {
	for src, want := range map[string]string{
		"0": "0", "9223372036854775807": "9223372036854775807", "a": "a", "tick": "tick", "me": "me", "A.x": "A.x", "has(A)": "has(A)", "f()": "f()", "f(1,a,g(2))": "f(1, a, g(2))", "rand(6)": "rand(6)", "f((1),(a+b),(c?d:e))": "f(1, a + b, c ? d : e)",
		"-a": "-a", "!a": "!a", "--a": "--a", "-!-a": "-!-a", "-(-a)": "--a", "-(1)": "-1", "-(a*b)": "-(a * b)", "!(a||b)": "!(a || b)", "-(a?b:c)": "-(a ? b : c)", "-f(a)": "-f(a)", "-A.x": "-A.x", "-a*b": "-a * b", "a*-b": "a * -b", "a- -b": "a - -b", "(-a)-(-b)": "-a - -b",
		"a?b:c": "a ? b : c", "a?b:c?d:e": "a ? b : c ? d : e", "a?(b?c:d):e": "a ? b ? c : d : e", "(a?b:c)?d:e": "(a ? b : c) ? d : e", "a?b:(c?d:e)": "a ? b : c ? d : e", "(a||b)?(c):(d||e)": "a || b ? c : d || e", "-a?b:c": "-a ? b : c",
		"(a?b:c)+d": "(a ? b : c) + d", "a+(b?c:d)": "a + (b ? c : d)", "(a+b)?c:d": "a + b ? c : d", "((a?b:c))": "a ? b : c",
	} {
		wantPrint(t, parse(t, "func f(){return "+src+";}"), "func f() {\n\treturn "+want+";\n}\n")
	}
}

// TestPrintBinding: Y2, every two Binary signs, one within the other on each side.
func TestPrintBinding(t *testing.T) {
	for i, outer := range levels {
		for k, inner := range levels {
			for _, out := range outer {
				for _, in := range inner {
					b := mk(syntax.Binary, in, name("a"), name("b"))
					left, right := "a "+in+" b", "a "+in+" b"
					if k < i {
						left = "(" + left + ")"
					}
					if k <= i {
						right = "(" + right + ")"
					}
					wantExpression(t, mk(syntax.Binary, out, b, name("c")), left+" "+out+" c")
					wantExpression(t, mk(syntax.Binary, out, name("c"), b), "c "+out+" "+right)
				}
			}
		}
		for _, out := range outer {
			c := mk(syntax.Cond, "", name("a"), name("b"), name("c"))
			wantExpression(t, mk(syntax.Binary, out, c, num(1)), "(a ? b : c) "+out+" 1")
			wantExpression(t, mk(syntax.Binary, out, num(1), c), "1 "+out+" (a ? b : c)")
			b := mk(syntax.Binary, out, name("a"), name("b"))
			wantExpression(t, mk(syntax.Unary, "-", b), "-(a "+out+" b)")
			wantExpression(t, mk(syntax.Cond, "", b, b, b), "a "+out+" b ? a "+out+" b : a "+out+" b")
			u := mk(syntax.Unary, "!", name("a"))
			wantExpression(t, mk(syntax.Binary, out, u, u), "!a "+out+" !a")
		}
	}
}

// anyExpression is a tree of so many nodes, or some more, whatever signs stand within one another.
func anyExpression(r *rand.Rand, size int) *node {
	if size <= 1 {
		return []*node{num(r.Int63n(3)), name("a"), mk(syntax.Field, "A", name("x")), mk(syntax.Has, "A"), mk(syntax.Word, "me"), mk(syntax.Call, "f")}[r.Intn(6)]
	}
	part := r.Intn(size)
	switch r.Intn(7) {
	case 0:
		return mk(syntax.Unary, []string{"-", "!"}[r.Intn(2)], anyExpression(r, size-1))
	case 1, 2:
		rest := r.Intn(size - part)
		return mk(syntax.Cond, "", anyExpression(r, part), anyExpression(r, rest), anyExpression(r, size-part-rest-1))
	case 3:
		return mk(syntax.Call, []string{"f", "min"}[r.Intn(2)], anyExpression(r, part), anyExpression(r, size-part-1))
	}
	level := levels[r.Intn(len(levels))]
	return mk(syntax.Binary, level[r.Intn(len(level))], anyExpression(r, part), anyExpression(r, size-part-1))
}

// match finds the end of parentheses.
func match(text string, open int) int {
	depth := 0
	for i := open; i < len(text); i++ {
		switch text[i] {
		case '(':
			depth++
		case ')':
			if depth--; depth == 0 {
				return i
			}
		}
	}
	return -1
}

// TestParentheses: Y2, parentheses stand only where the tree would be another one without them; and with them it is the same.
func TestParentheses(t *testing.T) {
	seen := 0
	for seed := range 3000 {
		r := rand.New(rand.NewSource(int64(seed)))
		n := returning(anyExpression(r, 1+r.Intn(9)))
		text := syntax.Print(n)
		if text != written(n) {
			t.Fatalf("Y2: Print of %s: %q, want %q", show(n, false), text, written(n))
		}
		if !syntax.Same(parse(t, text), n) {
			t.Fatalf("Y2: Print of %s is the source of another tree: %q", show(n, false), text)
		}
		for i := len("func f("); i < len(text); i++ {
			if text[i] != '(' || isWordByte(text[i-1]) {
				continue
			}
			seen++
			end := match(text, i)
			less := text[:i] + text[i+1:end] + text[end+1:]
			if other, err := syntax.Parse(less); err == nil && syntax.Same(other, n) {
				t.Fatalf("Y2: Print of %s has parentheses that need not be: %q", show(n, false), text)
			}
		}
	}
	if seen < 1000 {
		t.Errorf("only %d parentheses", seen)
	}
}

// TestPrintWithoutPlaces: Y2, neither places nor numbers count, but in a Number.
func TestPrintWithoutPlaces(t *testing.T) {
	for seed := range 200 {
		r := rand.New(rand.NewSource(int64(seed)))
		_, n := grow(r)
		want := syntax.Print(n)
		each(n, func(x *node) {
			x.At = r.Intn(100) - 50
			if x.Op != syntax.Number {
				x.Num = []int64{-1, 1, math.MinInt64, math.MaxInt64}[r.Intn(4)]
			}
			if len(x.L) == 0 {
				x.L = [][]*node{nil, {}, make([]*node, 0, 3)}[r.Intn(3)]
			}
		})
		wantPrint(t, n, want)
	}
}

// each goes through a tree.
func each(n *node, do func(*node)) {
	do(n)
	for _, child := range n.L {
		each(child, do)
	}
}

// TestNames: Y2, names are words that mean nothing.
func TestNames(t *testing.T) {
	places := func(text string) []*node {
		b := func() *node { return mk(syntax.Block, "") }
		c := func(word string) *node { return mk(syntax.Clause, word) }
		kinds := func(i int) *node {
			n := mk(syntax.System, "S", c("with"), c("without"), c("reads"), c("writes"), b())
			n.L[i].L = []*node{name("A"), name(text)}
			return mk(syntax.Program, "", n)
		}
		return []*node{
			mk(syntax.Program, "", mk(syntax.System, text, c("with"), c("without"), c("reads"), c("writes"), b())), mk(syntax.Program, "", mk(syntax.Func, text, c("func"), b())), kinds(0), kinds(1), kinds(2), kinds(3),
			mk(syntax.Program, "", mk(syntax.Func, "f", mk(syntax.Clause, "func", name(text)), b())),
			inBlock(mk(syntax.Let, text, num(1))), inBlock(mk(syntax.Set, text, num(1))), inBlock(mk(syntax.SetField, text, name("x"), num(1))), inBlock(mk(syntax.SetField, "A", name(text), num(1))), inBlock(mk(syntax.Remove, text)),
			inBlock(mk(syntax.Add, "", mk(syntax.Part, text))), inBlock(mk(syntax.Spawn, "", mk(syntax.Part, "A", mk(syntax.Value, text, num(1))))),
			returning(name(text)), returning(mk(syntax.Field, text, name("x"))), returning(mk(syntax.Field, "A", name(text))), returning(mk(syntax.Has, text)), returning(mk(syntax.Call, text)),
		}
	}
	for _, text := range []string{"a", "Z", "z9", "a_", "A0123456789_bcde", "Let", "lets", "minn", "le", "System", "xtick"} {
		for i, n := range places(text) {
			if got := syntax.Print(n); got != written(n) || got == "" || !strings.Contains(got, text) {
				t.Errorf("Y2: Print with the name %q at %d: %q, want %q", text, i, got, written(n))
			}
		}
	}
	wrong := []string{"", " ", "_", "_a", "1", "1a", "a b", " a", "a ", "a\n", "\na", "a//", "a/**/", "/**/a", "a;", "a.b", "a,b", "a(", "-", "!", "==", "é", "aé", "a\x00", "\x00", "\xff", "a-b", "A0123456789_bcdef", strings.Repeat("a", 8000), strings.Repeat("a", 8001), "a" + strings.Repeat(" ", 9000), "012", "@"}
	for _, text := range append(wrong, lex.Words()...) {
		list := places(text)
		if slices.Contains([]string{"rand", "input", "min", "max", "abs"}, text) {
			wantPrint(t, list[len(list)-1], "func f() {\n\treturn "+text+"();\n}\n")
			list = list[:len(list)-1]
		}
		for i, n := range list {
			if got := syntax.Print(n); got != "" {
				t.Errorf("Y2: Print with the name %.20q at %d: %q", text, i, got)
			}
		}
	}
}

// TestTexts: Y2, a node has the texts that the table names, and else none.
func TestTexts(t *testing.T) {
	all := append(allTokens(), "", "func", "==!", "=", "+ ", " +", "++", "===", "&", "|", "()", "[]", "TICK", "Tick", "wit", "with ")
	has := func(op int, make func(text string) *node, right ...string) {
		for _, text := range all {
			n := make(text)
			want := ""
			if slices.Contains(right, text) {
				want = written(n)
			}
			if got := syntax.Print(n); got != want {
				t.Errorf("Y2: Print with a %s of the text %q: %q, want %q", opName(op), text, got, want)
			}
		}
	}
	blank := func() *node { return mk(syntax.Block, "") }
	var signs []string
	for _, level := range levels {
		signs = append(signs, level...)
	}
	has(syntax.Binary, func(text string) *node { return returning(mk(syntax.Binary, text, num(1), num(2))) }, signs...)
	has(syntax.Unary, func(text string) *node { return returning(mk(syntax.Unary, text, num(1))) }, "-", "!")
	has(syntax.Word, func(text string) *node { return returning(mk(syntax.Word, text)) }, "tick", "me")
	has(syntax.Call, func(text string) *node { return returning(mk(syntax.Call, text)) }, "a", "b", "A", "x", "TICK", "Tick", "wit", "rand", "input", "min", "max", "abs")
	has(syntax.Number, func(text string) *node { return returning(mk(syntax.Number, text)) }, "")
	has(syntax.Cond, func(text string) *node { return returning(mk(syntax.Cond, text, num(1), num(2), num(3))) }, "")
	has(syntax.Program, func(text string) *node { return mk(syntax.Program, text, inBlock().L...) }, "")
	has(syntax.Block, func(text string) *node {
		return mk(syntax.Program, "", mk(syntax.Func, "f", mk(syntax.Clause, "func"), mk(syntax.Block, text)))
	}, "")
	has(syntax.Clause, func(text string) *node {
		return mk(syntax.Program, "", mk(syntax.Func, "f", mk(syntax.Clause, text), blank()))
	}, "func")
	for i, word := range []string{"with", "without", "reads", "writes"} {
		has(syntax.Clause, func(text string) *node {
			n := parse(t, "system S with A without B reads C writes D {}")
			n.L[0].L[i].Text = text
			return n
		}, word)
	}
	for op, children := range map[int][]*node{
		syntax.If: {num(1), blank()}, syntax.While: {num(1), blank()}, syntax.Repeat: {num(1), blank()}, syntax.Emit: {num(1), num(2)}, syntax.Spawn: {mk(syntax.Part, "A")}, syntax.Add: {mk(syntax.Part, "A")}, syntax.Die: nil, syntax.Stop: nil, syntax.Return: {num(1)},
	} {
		has(op, func(text string) *node { return inBlock(mk(op, text, children...)) }, "")
	}
}

// TestNumbers: Y2, a Number is 0 or more.
func TestNumbers(t *testing.T) {
	wantExpression(t, num(0), "0")
	wantExpression(t, num(7), "7")
	wantExpression(t, num(math.MaxInt64), "9223372036854775807")
	wantPrint(t, returning(num(-1)), "")
	wantPrint(t, returning(num(math.MinInt64)), "")
}

// samples is one of each kind of node, for every place where one may stand.
func samples() []*node {
	clause := func(word string) *node { return mk(syntax.Clause, word, name("A")) }
	block := func() *node { return mk(syntax.Block, "", mk(syntax.Die, "")) }
	return []*node{
		nil, mk(syntax.Program, ""), mk(syntax.System, "S", clause("with"), clause("without"), clause("reads"), clause("writes"), block()), clause("with"), clause("without"), clause("reads"), clause("writes"), clause("func"), mk(syntax.Func, "f", clause("func"), block()), block(),
		mk(syntax.Let, "a", num(1)), mk(syntax.Set, "a", num(1)), mk(syntax.SetField, "A", name("x"), num(1)), mk(syntax.If, "", num(1), block()), mk(syntax.If, "", num(1), block(), block()), mk(syntax.While, "", num(1), block()), mk(syntax.Repeat, "", num(1), block()), mk(syntax.Emit, "", num(1), num(2)),
		mk(syntax.Spawn, "", mk(syntax.Part, "A")), mk(syntax.Add, "", mk(syntax.Part, "A")), mk(syntax.Remove, "A"), mk(syntax.Die, ""), mk(syntax.Stop, ""), mk(syntax.Return, "", num(1)), mk(syntax.Part, "A", mk(syntax.Value, "x", num(1))), mk(syntax.Value, "x", num(1)),
		num(1), name("a"), mk(syntax.Field, "A", name("x")), mk(syntax.Binary, "+", num(1), num(2)), mk(syntax.Unary, "-", num(1)), mk(syntax.Cond, "", num(1), num(2), num(3)), mk(syntax.Call, "f", num(1)), mk(syntax.Has, "A"), mk(syntax.Word, "me"),
		{}, {Op: -1}, {Op: 6}, {Op: 9}, {Op: 25}, {Op: 29}, {Op: 39}, {Op: 64}, {Op: 66}, {Op: math.MaxInt}, {Op: math.MinInt},
	}
}

// wantRight holds Print of any tree against the model, and tells whether it is well formed.
func wantRight(t *testing.T, n *node) bool {
	t.Helper()
	want := ""
	right := isRight(n)
	if right {
		want = written(n)
	}
	if got := syntax.Print(n); got != want {
		t.Fatalf("Y2: Print of %.2000s:\n%q, want\n%q", show(n, false), got, want)
	}
	return right
}

// whole has every kind of node, where it may stand.
const whole = `system S with A, B without C reads D writes E { let a = -1 * (2 + b); A.x = f(1, min(c, 2)) ? has(A) : tick; if a < b { die; } else if c { stop; } else { spawn A{x: 1, y: me}, B{}; } while a { } repeat 2 { add A{x: B.y}; remove B; emit 1, 2; } if d { } } func f(a, b) { spawn; a = !b; return 0; }`

// TestEveryPlace: Y2, everything in the place of everything, and ahead of it, and behind; and everything gone.
func TestEveryPlace(t *testing.T) {
	right := 0
	size := len(gather(parse(t, whole)))
	for i := range size {
		for k := range len(samples()) {
			for way := range 3 {
				n := parse(t, whole)
				x := gather(n)[i]
				y := samples()[k]
				if x.parent == nil {
					n = y
				} else if way == 0 {
					x.parent.L[x.place] = y
				} else {
					x.parent.L = slices.Insert(x.parent.L, x.place+way-1, y)
				}
				if n != nil && wantRight(t, n) {
					right++
				}
			}
		}
		n := parse(t, whole)
		if x := gather(n)[i]; x.parent != nil {
			x.parent.L = slices.Delete(x.parent.L, x.place, x.place+1)
		}
		wantRight(t, n)
		for _, sample := range samples() {
			n := parse(t, whole)
			x := gather(n)[i].it
			x.L = append(x.L, sample)
			if wantRight(t, n) {
				right++
			}
		}
	}
	if right < 500 {
		t.Errorf("only %d trees are well formed", right)
	}
	for _, n := range samples()[2:] {
		wantPrint(t, n, "")
	}
	wantPrint(t, nil, "")
}

// spot is a node, and where it stands.
type spot struct {
	it, parent *node
	place      int
}

func gather(n *node) []spot {
	list := []spot{{it: n}}
	for i := 0; i < len(list); i++ {
		for k, child := range list[i].it.L {
			if child != nil {
				list = append(list, spot{child, list[i].it, k})
			}
		}
	}
	return list
}

// TestAnyTree: Y2, trees in which some things were changed.
func TestAnyTree(t *testing.T) {
	right := 0
	for seed := range 6000 {
		r := rand.New(rand.NewSource(int64(seed)))
		_, n := grow(r)
		for range 1 + r.Intn(2) {
			change(r, n)
		}
		if wantRight(t, n) {
			right++
		}
	}
	if right < 300 || right > 5700 {
		t.Errorf("%d of 6000 trees are well formed", right)
	}
}

// change changes something of a tree.
func change(r *rand.Rand, n *node) {
	list := gather(n)
	x, y := list[r.Intn(len(list))], list[r.Intn(len(list))]
	switch r.Intn(8) {
	case 0:
		x.it.Op = r.Intn(41) - 1
	case 1:
		all := append(allTokens(), "", "func", "a b", "A0123456789_bcdef")
		x.it.Text = all[r.Intn(len(all))]
	case 2:
		x.it.Num = int64(r.Intn(5) - 2)
	case 3:
		if len(x.it.L) > 0 {
			i := r.Intn(len(x.it.L))
			x.it.L = slices.Delete(slices.Clone(x.it.L), i, i+1)
		}
	case 4:
		list := samples()
		x.it.L = slices.Insert(slices.Clone(x.it.L), r.Intn(len(x.it.L)+1), list[r.Intn(len(list))])
	case 5:
		if x.parent != nil && !isWithin(y.it, x.parent) {
			x.parent.L[x.place] = y.it
		}
	case 6:
		if x.parent != nil {
			list := samples()
			x.parent.L[x.place] = list[r.Intn(len(list))]
		}
	case 7:
		r.Shuffle(len(x.it.L), func(i, k int) { x.it.L[i], x.it.L[k] = x.it.L[k], x.it.L[i] })
	}
}

// isWithin tells whether a node has another one in it.
func isWithin(n, in *node) bool {
	return slices.ContainsFunc(gather(n), func(s spot) bool { return s.it == in })
}

// TestNestedBlocks: Y2, at most 20 within one another; an if behind else is within no other.
func TestNestedBlocks(t *testing.T) {
	for _, op := range []int{syntax.While, syntax.Repeat, syntax.If} {
		s := mk(syntax.Die, "")
		for blocks := 1; blocks <= 30; blocks++ {
			n := inBlock(s)
			if right := wantRight(t, n); right != (blocks <= 20) {
				t.Errorf("Y2: %d blocks within one another: well formed is %v", blocks, right)
			}
			s = mk(op, "", num(1), mk(syntax.Block, "", s))
		}
	}
	s := mk(syntax.If, "", num(1), mk(syntax.Block, ""), mk(syntax.Block, "", mk(syntax.Die, "")))
	for range 1000 {
		s = mk(syntax.If, "", num(1), mk(syntax.Block, ""), s)
	}
	got := syntax.Print(inBlock(s))
	if want := "func f() {\n\tif 1 {\n\t}" + strings.Repeat(" else if 1 {\n\t}", 1000) + " else {\n\t\tdie;\n\t}\n}\n"; got != want {
		t.Errorf("Y2: Print of 1000 else ifs: %.300q", got)
	}
	deep := mk(syntax.If, "", num(1), mk(syntax.Block, ""), mk(syntax.Block, ""))
	for range 18 {
		deep = mk(syntax.If, "", num(1), mk(syntax.Block, ""), mk(syntax.Block, "", deep))
	}
	if !wantRight(t, inBlock(deep)) {
		t.Errorf("Y2: 20 blocks behind else are not well formed")
	}
	if wantRight(t, inBlock(mk(syntax.If, "", num(1), mk(syntax.Block, ""), mk(syntax.Block, "", deep)))) {
		t.Errorf("Y2: 21 blocks behind else are well formed")
	}
}

// TestManyNodes: Y2, at most 100000 nodes, one that stands in two places counted twice.
func TestManyNodes(t *testing.T) {
	die := mk(syntax.Die, "")
	for _, shared := range []bool{true, false} {
		statements := func(n int) []*node {
			list := slices.Repeat([]*node{die}, n)
			if !shared {
				for i := range list {
					list[i] = mk(syntax.Die, "")
				}
			}
			return list
		}
		wantPrint(t, inBlock(statements(99996)...), "func f() {\n"+strings.Repeat("\tdie;\n", 99996)+"}\n")
		wantPrint(t, inBlock(statements(99997)...), "")
		wantPrint(t, inBlock(statements(200000)...), "")
	}
	wantPrint(t, mk(syntax.Program, "", slices.Repeat(inBlock().L, 33333)...), strings.Repeat("func f() {\n}\n", 33333))
	wantPrint(t, mk(syntax.Program, "", slices.Repeat(inBlock().L, 33334)...), "")
	kinds := parse(t, "system S {}")
	kinds.L[0].L[1].L = slices.Repeat([]*node{name("A")}, 100000-7)
	wantPrint(t, kinds, "system S without A"+strings.Repeat(", A", 100000-8)+" {\n}\n")
	kinds.L[0].L[2].L = []*node{name("A")}
	wantPrint(t, kinds, "")
	// Doubled over and over, a few nodes stand for more than can be counted.
	e := num(1)
	for range 200 {
		e = mk(syntax.Binary, "+", e, e)
	}
	wantPrint(t, returning(e), "")
	s := mk(syntax.Block, "", mk(syntax.Die, ""))
	for range 19 {
		s = mk(syntax.Block, "", slices.Repeat([]*node{mk(syntax.While, "", num(1), s)}, 1000)...)
	}
	wantPrint(t, mk(syntax.Program, "", mk(syntax.Func, "f", mk(syntax.Clause, "func"), s)), "")
	shared := num(1)
	wantExpression(t, mk(syntax.Binary, "+", shared, mk(syntax.Binary, "*", shared, shared)), "1 + 1 * 1")
}

// TestDeepTrees: Y2 and P1, how deep expressions are does not matter.
func TestDeepTrees(t *testing.T) {
	const deep = 99990
	unary, left, right, cond := num(1), num(1), num(1), num(1)
	for range deep {
		unary = mk(syntax.Unary, "-", unary)
	}
	for range deep / 2 {
		left = mk(syntax.Binary, "-", left, num(1))
		right = mk(syntax.Binary, "-", num(1), right)
	}
	for range deep / 3 {
		cond = mk(syntax.Cond, "", cond, num(2), num(3))
	}
	wantExpression(t, unary, strings.Repeat("-", deep)+"1")
	wantExpression(t, left, "1"+strings.Repeat(" - 1", deep/2))
	wantExpression(t, right, strings.Repeat("1 - (", deep/2-1)+"1 - 1"+strings.Repeat(")", deep/2-1))
	wantExpression(t, cond, strings.Repeat("(", deep/3-1)+"1 ? 2 : 3"+strings.Repeat(") ? 2 : 3", deep/3-1))
	for range 20 {
		unary = mk(syntax.Unary, "!", unary)
	}
	wantPrint(t, returning(unary), "")
	for range 1 << 20 {
		unary = mk(syntax.Unary, "!", unary)
	}
	wantPrint(t, returning(unary), "")
	parts := mk(syntax.Call, "f")
	for range deep {
		parts = mk(syntax.Call, "f", parts)
	}
	wantExpression(t, parts, strings.Repeat("f(", deep+1)+strings.Repeat(")", deep+1))
}

// TestManyOfAll: Y2, how many statements, parameters, systems and functions there are does not matter.
func TestManyOfAll(t *testing.T) {
	f := mk(syntax.Func, "f", mk(syntax.Clause, "func", slices.Repeat([]*node{name("a")}, 50)...), mk(syntax.Block, "", slices.Repeat([]*node{mk(syntax.Stop, "")}, 300)...))
	s := parse(t, "system S {}").L[0]
	n := mk(syntax.Program, "", append(slices.Repeat([]*node{f}, 20), slices.Repeat([]*node{s}, 20)...)...)
	want := strings.Repeat("func f(a"+strings.Repeat(", a", 49)+") {\n"+strings.Repeat("\tstop;\n", 300)+"}\n", 20) + strings.Repeat("system S {\n}\n", 20)
	wantPrint(t, n, want)
	if len(want) <= api.MaxSource {
		t.Errorf("the text is not longer than a source may be")
	}
}

// TestWithinItself: Y2, a node that stands within itself is not well formed.
func TestWithinItself(t *testing.T) {
	e := mk(syntax.Unary, "-", num(1))
	e.L[0] = e
	wantPrint(t, returning(e), "")
	b := mk(syntax.Binary, "+", num(1), num(1))
	b.L[1] = mk(syntax.Call, "f", num(1), b)
	wantPrint(t, returning(b), "")
	s := mk(syntax.If, "", num(1), mk(syntax.Block, ""))
	s.L = append(s.L, s)
	wantPrint(t, inBlock(s), "")
	w := mk(syntax.While, "", num(1), mk(syntax.Block, ""))
	w.L[1].L = []*node{w}
	wantPrint(t, inBlock(w), "")
	p := mk(syntax.Program, "")
	p.L = []*node{p}
	wantPrint(t, p, "")
}

// FuzzPrint: Y2 and P1, at trees that are changed.
func FuzzPrint(f *testing.F) {
	f.Add(int64(1), 1)
	f.Add(int64(7), 3)
	f.Fuzz(func(t *testing.T, seed int64, changes int) {
		r := rand.New(rand.NewSource(seed))
		_, n := grow(r)
		for range min(max(changes, 0), 10) {
			change(r, n)
		}
		wantRight(t, n)
	})
}
