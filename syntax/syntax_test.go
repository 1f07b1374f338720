package syntax_test

import (
	"errors"
	"fmt"
	"strings"
	"testing"

	"hindcast/api"
	"hindcast/lex"
	"hindcast/syntax"
)

// opName has the ops as the chapter calls them.
func opName(op int) string {
	names := map[int]string{
		syntax.Program: "Program", syntax.System: "System", syntax.Clause: "Clause", syntax.Func: "Func", syntax.Block: "Block",
		syntax.Let: "Let", syntax.Set: "Set", syntax.SetField: "SetField", syntax.If: "If", syntax.While: "While", syntax.Repeat: "Repeat", syntax.Emit: "Emit", syntax.Spawn: "Spawn",
		syntax.Add: "Add", syntax.Remove: "Remove", syntax.Die: "Die", syntax.Stop: "Stop", syntax.Return: "Return", syntax.Part: "Part", syntax.Value: "Value",
		syntax.Number: "Number", syntax.Name: "Name", syntax.Field: "Field", syntax.Binary: "Binary", syntax.Unary: "Unary", syntax.Cond: "Cond", syntax.Call: "Call", syntax.Has: "Has", syntax.Word: "Word",
	}
	if name, ok := names[op]; ok {
		return name
	}
	return fmt.Sprint(op)
}

// show tells all of a tree, but for places if they don't count.
func show(n *syntax.Node, places bool) string {
	if n == nil {
		return "nil"
	}
	s := opName(n.Op)
	if places {
		s += fmt.Sprintf("@%d", n.At)
	}
	if n.Text != "" {
		s += fmt.Sprintf(" %q", n.Text)
	}
	if n.Num != 0 {
		s += fmt.Sprintf(" #%d", n.Num)
	}
	for _, child := range n.L {
		s += " [" + show(child, places) + "]"
	}
	return s
}

// parse reads a source that must be one.
func parse(t *testing.T, src string) *syntax.Node {
	t.Helper()
	n, err := syntax.Parse(src)
	if err != nil || n == nil {
		t.Fatalf("Y1: Parse(%q): %v, %v", src, n, err)
	}
	return n
}

// wantFault holds a source's fault against this one, beside which nothing may be told.
func wantFault(t *testing.T, src string, at int, number api.Errno) {
	t.Helper()
	n, err := syntax.Parse(src)
	fault, ok := err.(*api.Fault)
	if !ok || fault == nil || *fault != (api.Fault{At: at, Err: number}) {
		t.Errorf("Y1: Parse of %.200q (%d bytes): %v, want %v at %d", src, len(src), err, number, at)
	}
	if !errors.Is(err, number) {
		t.Errorf("P5: Parse of %.200q (%d bytes): the fault does not wrap %v", src, len(src), number)
	}
	if n != nil {
		t.Errorf("P2: Parse of %.200q (%d bytes): a tree beside an error", src, len(src))
	}
}

// wantFaultAt does so with a source in which a ^ stands ahead of the token of the fault.
func wantFaultAt(t *testing.T, marked string, number api.Errno) {
	t.Helper()
	ahead, behind, ok := strings.Cut(marked, "^")
	if !ok {
		t.Fatalf("no ^ in %q", marked)
	}
	wantFault(t, ahead+behind, len(ahead), number)
}

// TestExamples: those of the chapter.
func TestExamples(t *testing.T) {
	for src, want := range map[string]string{
		"system M reads V writes P{P.x=P.x+V.x;}": "system M reads V writes P {\n\tP.x = P.x + V.x;\n}\n",
		"func f(a){return a-(1-2)*-3;}":           "func f(a) {\n\treturn a - (1 - 2) * -3;\n}\n",
		"func f(){return (a<b)==(c<d);}":          "func f() {\n\treturn a < b == c < d;\n}\n",
		"func f(){return a?b:c?d:e;}":             "func f() {\n\treturn a ? b : c ? d : e;\n}\n",
		"func f(){return (a?b:c)?d:e;}":           "func f() {\n\treturn (a ? b : c) ? d : e;\n}\n",
	} {
		if got := syntax.Print(parse(t, src)); got != want {
			t.Errorf("Y2: Print of %q: %q, want %q", src, got, want)
		}
	}
	wantFault(t, "system S { let x = ; }", 19, api.ErrSyntax)
	wantFault(t, "system S with { }", 14, api.ErrSyntax)
	wantFault(t, "system S {", 10, api.ErrSyntax)
	wantFault(t, "system let { }", 7, api.ErrSyntax)
	wantFault(t, "system S { a = "+strings.Repeat("(", 20), 15+19, api.ErrDeep)
}

// TestConstants: the ops are as they were given.
func TestConstants(t *testing.T) {
	for want, op := range map[int]int{
		1: syntax.Program, 2: syntax.System, 3: syntax.Clause, 4: syntax.Func, 5: syntax.Block,
		10: syntax.Let, 11: syntax.Set, 12: syntax.SetField, 13: syntax.If, 14: syntax.While, 15: syntax.Repeat, 16: syntax.Emit, 17: syntax.Spawn,
		18: syntax.Add, 19: syntax.Remove, 20: syntax.Die, 21: syntax.Stop, 22: syntax.Return, 23: syntax.Part, 24: syntax.Value,
		30: syntax.Number, 31: syntax.Name, 32: syntax.Field, 33: syntax.Binary, 34: syntax.Unary, 35: syntax.Cond, 36: syntax.Call, 37: syntax.Has, 38: syntax.Word,
	} {
		if op != want {
			t.Errorf("Y1: the op %d is %d", want, op)
		}
	}
}

// TestPrograms: Y1, heads as trees, with their places.
func TestPrograms(t *testing.T) {
	bare := `[Clause@9 "with"] [Clause@9 "without"] [Clause@9 "reads"] [Clause@9 "writes"]`
	for src, want := range map[string]string{
		"":                      `Program@0`,
		" \n/* */ // nothing":   `Program@0`,
		"system M {}":           `Program@0 [System@0 "M" ` + bare + ` [Block@9]]`,
		" func f ( ) { } ":      `Program@0 [Func@1 "f" [Clause@8 "func"] [Block@12]]`,
		"func f(a,b,c,d){}":     `Program@0 [Func@0 "f" [Clause@6 "func" [Name@7 "a"] [Name@9 "b"] [Name@11 "c"] [Name@13 "d"]] [Block@15]]`,
		"func f(a,a){}":         `Program@0 [Func@0 "f" [Clause@6 "func" [Name@7 "a"] [Name@9 "a"]] [Block@11]]`,
		"func f(){}system f {}": `Program@0 [Func@0 "f" [Clause@6 "func"] [Block@8]] [System@10 "f" [Clause@19 "with"] [Clause@19 "without"] [Clause@19 "reads"] [Clause@19 "writes"] [Block@19]]`,
		"system S with A without B reads C writes D {}": `Program@0 [System@0 "S" [Clause@9 "with" [Name@14 "A"]] [Clause@16 "without" [Name@24 "B"]] [Clause@26 "reads" [Name@32 "C"]] [Clause@34 "writes" [Name@41 "D"]] [Block@43]]`,
		"system S without A,B,A{}":                      `Program@0 [System@0 "S" [Clause@22 "with"] [Clause@9 "without" [Name@17 "A"] [Name@19 "B"] [Name@21 "A"]] [Clause@22 "reads"] [Clause@22 "writes"] [Block@22]]`,
		"system S with A writes A {}":                   `Program@0 [System@0 "S" [Clause@9 "with" [Name@14 "A"]] [Clause@25 "without"] [Clause@25 "reads"] [Clause@16 "writes" [Name@23 "A"]] [Block@25]]`,
		"system S reads A {}":                           `Program@0 [System@0 "S" [Clause@17 "with"] [Clause@17 "without"] [Clause@9 "reads" [Name@15 "A"]] [Clause@17 "writes"] [Block@17]]`,
		"system S with A,B,C,D,E,F {}":                  `Program@0 [System@0 "S" [Clause@9 "with" [Name@14 "A"] [Name@16 "B"] [Name@18 "C"] [Name@20 "D"] [Name@22 "E"] [Name@24 "F"]] [Clause@26 "without"] [Clause@26 "reads"] [Clause@26 "writes"] [Block@26]]`,
	} {
		if got := show(parse(t, src), true); got != want {
			t.Errorf("Y1: Parse(%q):\n%s, want\n%s", src, got, want)
		}
	}
}

// TestStatements: Y1, each kind of statement as a tree, with its places.
func TestStatements(t *testing.T) {
	for src, want := range map[string]string{
		"":                                   ``,
		"let x=1;":                           `[Let@9 "x" [Number@15 #1]]`,
		"x = 0 ;":                            `[Set@9 "x" [Number@13]]`,
		"Pos . x=y;":                         `[SetField@9 "Pos" [Name@15 "x"] [Name@17 "y"]]`,
		"if a{}":                             `[If@9 [Name@12 "a"] [Block@13]]`,
		"if a{die;}else{stop;}":              `[If@9 [Name@12 "a"] [Block@13 [Die@14]] [Block@23 [Stop@24]]]`,
		"if a{}else if b{}else{}":            `[If@9 [Name@12 "a"] [Block@13] [If@20 [Name@23 "b"] [Block@24] [Block@30]]]`,
		"if a{}if b{}":                       `[If@9 [Name@12 "a"] [Block@13]] [If@15 [Name@18 "b"] [Block@19]]`,
		"if a{if b{}}else{}":                 `[If@9 [Name@12 "a"] [Block@13 [If@14 [Name@17 "b"] [Block@18]]] [Block@25]]`,
		"while(a){x=1;}":                     `[While@9 [Name@15 "a"] [Block@17 [Set@18 "x" [Number@20 #1]]]]`,
		"repeat 3{repeat 4{}}":               `[Repeat@9 [Number@16 #3] [Block@17 [Repeat@18 [Number@25 #4] [Block@26]]]]`,
		"emit 1,me;":                         `[Emit@9 [Number@14 #1] [Word@16 "me"]]`,
		"spawn;":                             `[Spawn@9]`,
		"spawn A{};":                         `[Spawn@9 [Part@15 "A"]]`,
		"spawn A{x:1,y:2},B{},A{x:3,x:4};":   `[Spawn@9 [Part@15 "A" [Value@17 "x" [Number@19 #1]] [Value@21 "y" [Number@23 #2]]] [Part@26 "B"] [Part@30 "A" [Value@32 "x" [Number@34 #3]] [Value@36 "x" [Number@38 #4]]]]`,
		"add A {x : 1?2:3} ;":                `[Add@9 [Part@13 "A" [Value@16 "x" [Cond@21 [Number@20 #1] [Number@22 #2] [Number@24 #3]]]]]`,
		"remove A;":                          `[Remove@9 "A"]`,
		"die;stop ;":                         `[Die@9] [Stop@13]`,
		"return 7;return 8;":                 `[Return@9 [Number@16 #7]] [Return@18 [Number@25 #8]]`,
		"lets=1;ifx=2;a.system1=3;":          `[Set@9 "lets" [Number@14 #1]] [Set@16 "ifx" [Number@20 #2]] [SetField@22 "a" [Name@24 "system1"] [Number@32 #3]]`,
		"Let=1;MAX=2;A0123456789_cdef=Tick;": `[Set@9 "Let" [Number@13 #1]] [Set@15 "MAX" [Number@19 #2]] [Set@21 "A0123456789_cdef" [Name@38 "Tick"]]`,
	} {
		if want != "" {
			want = " " + want
		}
		n := parse(t, "func f(){"+src+"}")
		if got := show(n.L[0].L[1], true); got != "Block@8"+want {
			t.Errorf("Y1: Parse(%q):\n%s, want\n%s", src, got, want)
		}
	}
}

// TestExpressions: Y1, what binds more stands deeper, what binds alike to the left.
func TestExpressions(t *testing.T) {
	for src, want := range map[string]string{
		"0": `Number@0`, "9223372036854775807": `Number@0 #9223372036854775807`, "a": `Name@0 "a"`, "A.x": `Field@0 "A" [Name@2 "x"]`, "A /**/ . x": `Field@0 "A" [Name@9 "x"]`,
		"tick": `Word@0 "tick"`, "me": `Word@0 "me"`, "has ( A )": `Has@0 "A"`, "(a)": `Name@1 "a"`, "((a))": `Name@2 "a"`,
		"f()": `Call@0 "f"`, "f(1)": `Call@0 "f" [Number@2 #1]`, "f(a,(b),g())": `Call@0 "f" [Name@2 "a"] [Name@5 "b"] [Call@8 "g"]`,
		"rand()": `Call@0 "rand"`, "input(1)": `Call@0 "input" [Number@6 #1]`, "min(1,2)": `Call@0 "min" [Number@4 #1] [Number@6 #2]`, "max(a,b,c)": `Call@0 "max" [Name@4 "a"] [Name@6 "b"] [Name@8 "c"]`, "abs (1)": `Call@0 "abs" [Number@5 #1]`,
		"f(a?b:c)": `Call@0 "f" [Cond@3 [Name@2 "a"] [Name@4 "b"] [Name@6 "c"]]`,
		"-1":       `Unary@0 "-" [Number@1 #1]`, "!-!a": `Unary@0 "!" [Unary@1 "-" [Unary@2 "!" [Name@3 "a"]]]`, "-(a)": `Unary@0 "-" [Name@2 "a"]`, "-f(1)": `Unary@0 "-" [Call@1 "f" [Number@3 #1]]`, "-A.x": `Unary@0 "-" [Field@1 "A" [Name@3 "x"]]`,
		"-a*b": `Binary@2 "*" [Unary@0 "-" [Name@1 "a"]] [Name@3 "b"]`, "a*-b": `Binary@1 "*" [Name@0 "a"] [Unary@2 "-" [Name@3 "b"]]`, "-(a*b)": `Unary@0 "-" [Binary@3 "*" [Name@2 "a"] [Name@4 "b"]]`, "a--b": `Binary@1 "-" [Name@0 "a"] [Unary@2 "-" [Name@3 "b"]]`,
		"a?b:c":     `Cond@1 [Name@0 "a"] [Name@2 "b"] [Name@4 "c"]`,
		"a?b:c?d:e": `Cond@1 [Name@0 "a"] [Name@2 "b"] [Cond@5 [Name@4 "c"] [Name@6 "d"] [Name@8 "e"]]`, "a?b?c:d:e": `Cond@1 [Name@0 "a"] [Cond@3 [Name@2 "b"] [Name@4 "c"] [Name@6 "d"]] [Name@8 "e"]`,
		"(a?b:c)?d:e": `Cond@7 [Cond@2 [Name@1 "a"] [Name@3 "b"] [Name@5 "c"]] [Name@8 "d"] [Name@10 "e"]`, "a||b?c:d||e": `Cond@4 [Binary@1 "||" [Name@0 "a"] [Name@3 "b"]] [Name@5 "c"] [Binary@8 "||" [Name@7 "d"] [Name@10 "e"]]`,
		"a||b&&c==d<e+f*g": `Binary@1 "||" [Name@0 "a"] [Binary@4 "&&" [Name@3 "b"] [Binary@7 "==" [Name@6 "c"] [Binary@10 "<" [Name@9 "d"] [Binary@12 "+" [Name@11 "e"] [Binary@14 "*" [Name@13 "f"] [Name@15 "g"]]]]]]`,
		"a*b+c<d==e&&f||g": `Binary@13 "||" [Binary@10 "&&" [Binary@7 "==" [Binary@5 "<" [Binary@3 "+" [Binary@1 "*" [Name@0 "a"] [Name@2 "b"]] [Name@4 "c"]] [Name@6 "d"]] [Name@9 "e"]] [Name@12 "f"]] [Name@15 "g"]`,
		"a-(b-c)":          `Binary@1 "-" [Name@0 "a"] [Binary@4 "-" [Name@3 "b"] [Name@5 "c"]]`,
	} {
		n := parse(t, "func f(){return "+src+";}").L[0].L[1].L[0].L[0]
		if got := show(move(n, -16), true); got != want {
			t.Errorf("Y1: Parse(%q):\n%s, want\n%s", src, got, want)
		}
	}
}

// move moves all places of a tree of the test's own.
func move(n *syntax.Node, by int) *syntax.Node {
	n.At += by
	for _, child := range n.L {
		move(child, by)
	}
	return n
}

// levels are the Binary signs, those first that bind least.
var levels = [][]string{{"||"}, {"&&"}, {"==", "!="}, {"<", "<=", ">", ">="}, {"+", "-"}, {"*", "/", "%"}}

// TestBinding: Y1, every two Binary signs beside one another.
func TestBinding(t *testing.T) {
	for i, left := range levels {
		for k, right := range levels {
			for _, one := range left {
				for _, two := range right {
					want := fmt.Sprintf(`Binary %q [Binary %q [Name "a"] [Name "b"]] [Name "c"]`, two, one)
					if k > i {
						want = fmt.Sprintf(`Binary %q [Name "a"] [Binary %q [Name "b"] [Name "c"]]`, one, two)
					}
					src := "a " + one + " b " + two + " c"
					n := parse(t, "func f(){return "+src+";}").L[0].L[1].L[0].L[0]
					if got := show(n, false); got != want {
						t.Errorf("Y1: Parse(%q): %s, want %s", src, got, want)
					}
				}
			}
		}
	}
}

// TestFaults: Y1, the first token with which no program goes on.
func TestFaults(t *testing.T) {
	for _, marked := range []string{
		"^x", "^;", "^1", "^{", "^let", "system^", "func^", "system ^{", "system ^1", "system S ^", "system S ^(", "system S ^}", "system S ^T {}", "system S {} ^}", "system S {} ^x", "system S {^", "system S { die; ^", "system S { // x\n ^",
		"system S ^func f() {}", "system S { ^func f() {} }", "system S { ^system }", "^with A {}", "system S {} ^with A", "system S {} ^else {}",
		"system S with ^", "system S with ^,", "system S with ^with", "system S with A^", "system S with A ^B {}", "system S with A, ^{}", "system S with A,^,B {}", "system S with A ^with B {}", "system S without A ^with B {}", "system S reads A ^without B {}",
		"system S writes A ^reads B {}", "system S writes A ^writes B {}", "system S with ^1 {}", "system S with A^;", "system S ^, A {}", "system S with A ^. B {}", "system S with A ^(B) {}",
		"func f ^{}", "func ^(a) {}", "func f(^", "func f(^{}", "func f(a^", "func f(a ^b) {}", "func f(^,) {}", "func f(a,^) {}", "func f(a,^1) {}", "func f(^1) {}", "func f() ^", "func f() ^;", "func f() ^with A {}", "func f(^()) {}", "func f(a)^) {}", "func f(a^;b) {}", "func f(a^=1) {}",
	} {
		wantFaultAt(t, marked, api.ErrSyntax)
	}
	for _, word := range lex.Words() {
		for _, marked := range []string{"system ^%s {}", "func ^%s() {}", "func f(^%s) {}", "func f(a, ^%s) {}", "system S with ^%s {}", "system S writes A, ^%s {}"} {
			wantFaultAt(t, fmt.Sprintf(marked, word), api.ErrSyntax)
		}
	}
}

// TestFaultsOfStatements: Y1, the same within a block.
func TestFaultsOfStatements(t *testing.T) {
	for _, marked := range []string{
		"^;", "^1 = 2;", "^{}", "^(a) = 1;", "^else {}", "^has(A);", "^tick = 1;", "^with A;", "^- a = 1;", "a ^;", "a ^}", "a ^(1);", "a ^b", "a ^== 1;", "a = ^;", "a = 1 ^}", "a = 1 ^a = 2;", "a ^+ 1;", "a.^1 = 2;", "a. ^= 2;", "a.b ^;", "a.b^.c = 1;", "a.b ^(", "^tick.a = 1;",
		"let ^= 1;", "let ^1 = 1;", "let a ^1;", "let a^.b = 1;", "let a ^;", "let a ^== 1;", "let a = ^;", "let a = 1 ^, b = 2;",
		"if ^{}", "if a ^die;", "if a ^;", "if a {} else ^die;", "if a {} else ^;", "if a {} else ^else {}", "if a {} else {} ^else {}", "if a {} else if ^{}", "if a {} ^;", "if a {} else if b {} else ^x = 1;", "if a {} else ^}", "if a {} else ^while b {}",
		"while ^{}", "while a ^;", "while a {} ^else {}", "while a {} ^;", "repeat ^{}", "repeat a ^;", "repeat a {} ^else {}", "repeat ^;", "while a ^, b {}",
		"emit ^;", "emit 1 ^;", "emit 1, ^;", "emit 1, 2 ^, 3;", "emit 1 ^2;", "emit ^, 2;", "emit 1, 2 ^}",
		"spawn ^,;", "spawn A ^;", "spawn A ^, B{};", "spawn A{} ^B{};", "spawn A{}, ^;", "spawn A{} ^}", "spawn A{^,};", "spawn A{x ^};", "spawn A{x: ^};", "spawn A{x: 1 ^y: 2};", "spawn A{x: 1, ^};", "spawn A{x: 1^;", "spawn A{^1: 1};", "spawn A{x ^= 1};", "spawn ^1{};", "spawn ^{}", "spawn A{^{}};", "spawn A^(x: 1);", "spawn A{x^.y: 1};",
		"add ^;", "add A ^;", "add A{} ^, B{};", "add A{} ^}", "add ^{};", "remove ^;", "remove ^1;", "remove A ^{};", "remove A^.x;", "remove A ^, B;", "remove A ^}",
		"die ^}", "die ^1;", "die ^(", "stop ^}", "stop ^a;", "return ^;", "return ^}", "return 1 ^}", "return 1^, 2;", "return ^return 1;",
	} {
		wantFaultAt(t, "system S { "+marked+" }", api.ErrSyntax)
		wantFaultAt(t, "func f() { if a { } while b { "+marked+" } }", api.ErrSyntax)
	}
	for _, word := range lex.Words() {
		for _, marked := range []string{"let ^%s = 1;", "a.^%s = 1;", "spawn ^%s{};", "spawn A{^%s: 1};", "spawn A{x: 1, ^%s: 1};", "add ^%s{};", "remove ^%s;", "a = A.^%s;", "a = has(^%s);"} {
			wantFaultAt(t, "system S { "+fmt.Sprintf(marked, word)+" }", api.ErrSyntax)
		}
	}
}

// TestFaultsOfExpressions: Y1, the same within an expression, wherever one may stand.
func TestFaultsOfExpressions(t *testing.T) {
	for _, marked := range []string{
		"^)", "^}", "^*", "^=", "^?", "^:", "^.", "^==", "^&&", "^if", "^let", "^with", "^else", "^die", "^system", "^add A{}", "1 + ^)", "1 + ^+ 1", "1 + ^* 1", "1 ^1", "1 ^a", "a ^1", "a ^a", "1 ^(a)", "a ^!", "a ^!b", "1^.x", "1 ^= 1", "a ^= 1", "a ^= = 1",
		"(^)", "(1^, 2)", "(1 ^;", "((1) ^;", "(1 ^}", "- ^)", "-^+1", "!^*", "--^)", "a ? ^: b", "a ? b ^;", "a ? b ^)", "a ? b : ^)", "a ? b ? c : d ^;", "(a ? b^)", "(a ^: b)", "a ? ^? b", "a ?b:^:c",
		"A.^1", "A.^(x)", "A.^+", "A.x^.y", "A.x ^(", "A.x ^y", "tick^.x", "tick ^(", "me^.x", "me ^1", "f(^,)", "f(1,^)", "f(1 ^2)", "f(1^;", "f(1)^(2)", "f(1)^.x", "f(1) ^a", "f(^if)", "(f)^(1)", "(A)^.x", "1^(2)",
		"has ^A", "has(^)", "has(^1)", "has(A^, B)", "has(A^.x)", "has(A^;", "has(^has(A))", "has(A) ^a", "has(^(A))", "min ^;", "min ^1", "min^.x", "rand ^+ 1", "abs(1,^)", "input(^,1)", "max ^!= 1",
	} {
		for _, place := range []string{
			"func f() { return @; }", "system S { a = 2 * @; }", "system S { if @ {} }", "system S { emit 1, @; }", "system S { spawn A{x: 1, y: @ , z: 1}; }",
			"func f() { a = f(1, @); }", "func f() { a = b ? @ : c; }", "func f() { a = b ? c : -(@); }", "func f() { let a = ! @; }", "func f() { B.x = (@); }",
		} {
			wantFaultAt(t, strings.Replace(place, "@", marked, 1), api.ErrSyntax)
		}
	}
}

// TestPrefixes: Y1, the tokens up to one of a program's are no fault, but their end.
func TestPrefixes(t *testing.T) {
	src := "system S with A, B without C reads D writes E { let a = -1 * (2 + b); A.x = f(1, min(c, 2)) ? has(A) : tick; if a < b { die; } else if c { stop; } else { spawn A{x: 1, y: me}, B{}; } while a { } repeat 2 { add A{}; remove B; emit 1, 2; } return 0; } func f(a, b) { spawn; }"
	tokens, _ := lex.Lex(src)
	parse(t, src)
	for i, token := range tokens {
		cut := src[:token.At]
		if i == 0 || i == len(tokens)-1 || token.Text == "func" {
			parse(t, cut)
		} else {
			wantFault(t, cut, len(cut), api.ErrSyntax)
			wantFault(t, strings.TrimSpace(cut)+" /* */ //", len(strings.TrimSpace(cut))+9, api.ErrSyntax)
		}
	}
}

// TestTokenFaults: Y1, what is wrong for lex is told ahead of all else.
func TestTokenFaults(t *testing.T) {
	for _, marked := range []string{"system S { ^012 }", "^@", "x ; ^/*", "system system 1^x", "func f(a, b, c, d, e) ^a1234567890123456 {}", "system S{a=" + strings.Repeat("(", 30) + "^&"} {
		wantFaultAt(t, marked, api.ErrToken)
	}
	wantFault(t, strings.Repeat(" ", api.MaxSource+1), api.MaxSource, api.ErrLong)
	wantFault(t, "x"+strings.Repeat("@", api.MaxSource), api.MaxSource, api.ErrLong)
	parse(t, strings.Repeat(" ", api.MaxSource))
	parse(t, "system S{}"+strings.Repeat("\n", api.MaxSource-10))
	wantFault(t, "system S{}}"+strings.Repeat("\n", api.MaxSource-11), 10, api.ErrSyntax)
	wantFault(t, "system S{"+strings.Repeat("\n", api.MaxSource-9), api.MaxSource, api.ErrSyntax)
}
