package syntax_test

import (
	"fmt"
	"strings"
	"testing"

	"hindcast/api"
)

// TestManySystems: Y1, the first one above 16 of a kind, whatever stands between them.
func TestManySystems(t *testing.T) {
	systems, funcs := strings.Repeat("system S{}", 16), strings.Repeat("func f(){}", 16)
	parse(t, systems)
	parse(t, funcs)
	parse(t, systems+funcs)
	parse(t, funcs+systems)
	parse(t, strings.Repeat("func f(){}system S{}", 16))
	wantFaultAt(t, systems+"^system S{}", api.ErrLong)
	wantFaultAt(t, systems+"^system", api.ErrLong)
	wantFaultAt(t, systems+"^system 1 }} /* ; */", api.ErrLong)
	wantFaultAt(t, funcs+"^func f(){}", api.ErrLong)
	wantFaultAt(t, systems+funcs+"^func", api.ErrLong)
	wantFaultAt(t, funcs+systems+"^system", api.ErrLong)
	wantFaultAt(t, strings.Repeat("func f(){}system S{}", 16)+"^func f(){}system S{}", api.ErrLong)
	wantFaultAt(t, systems+"^x", api.ErrSyntax)
	wantFaultAt(t, systems+funcs+"^}", api.ErrSyntax)
	wantFaultAt(t, systems+"func f() { ^system", api.ErrSyntax)
	wantFaultAt(t, strings.Repeat("system S{}", 15)+"system ^system", api.ErrSyntax)
}

// TestManyParameters: Y1, the first one above 4; kinds and arguments are as many as there are.
func TestManyParameters(t *testing.T) {
	parse(t, "func f(a, b, c, d) {}")
	parse(t, "func f(a, b, c, d) {} func g(a, b, c, d) {}")
	wantFaultAt(t, "func f(a, b, c, d, ^e) {}", api.ErrLong)
	wantFaultAt(t, "func f(a, b, c, d, ^a", api.ErrLong)
	wantFaultAt(t, "func f(a, b, c, d, ^e e", api.ErrLong)
	wantFaultAt(t, "func f(a, b, c, d, ^let) {}", api.ErrSyntax)
	wantFaultAt(t, "func f(a, b, c, d, ^1) {}", api.ErrSyntax)
	wantFaultAt(t, "func f(a, b, c, d,^) {}", api.ErrSyntax)
	wantFaultAt(t, "func f(a, b, c, d ^e) {}", api.ErrSyntax)
	wantFaultAt(t, "func f(a, b, c, ^1, e) {}", api.ErrSyntax)
	wantFaultAt(t, "func g(a, b) {} func f(a, b, c, d, ^e, f) {}", api.ErrLong)
	many := "A" + strings.Repeat(", A", 100)
	parse(t, "system S with "+many+" without "+many+" reads "+many+" writes "+many+" {}")
	parse(t, "func f() { return f(1"+strings.Repeat(", 1", 100)+"); }")
	parse(t, "func f() { spawn A{}"+strings.Repeat(", A{}", 100)+"; }")
	parse(t, "func f() { add A{x: 1"+strings.Repeat(", x: 1", 100)+"}; }")
}

// TestManyStatements: Y1, the first one above 200 of the whole source, however they stand within one another.
func TestManyStatements(t *testing.T) {
	for _, one := range []string{"let a=1;", "a=1;", "A.x=1;", "if a{}", "if a{}else{}", "while a{}", "repeat 1{}", "emit 1,2;", "spawn;", "spawn A{},B{x:1};", "add A{};", "remove A;", "die;", "stop;", "return 1;"} {
		parse(t, "system S{"+strings.Repeat(one, 200)+"}")
		wantFaultAt(t, "system S{"+strings.Repeat(one, 200)+"^"+one+"}", api.ErrLong)
		wantFaultAt(t, "func f(){"+strings.Repeat("die;", 200)+"^"+one+"}", api.ErrLong)
		half := "func f(){" + strings.Repeat(one, 100) + "}"
		parse(t, half+half)
		wantFaultAt(t, half+half+"system S{^"+one+"}", api.ErrLong)
	}
	all := strings.Repeat("die;", 200)
	wantFaultAt(t, "system S{"+all+"^a", api.ErrLong)
	wantFaultAt(t, "system S{"+all+"^if )", api.ErrLong)
	for _, token := range []string{"1", "else", ";", "{", "(", "tick", "system", "has", "-"} {
		wantFaultAt(t, "system S{"+all+"^"+token, api.ErrSyntax)
	}
	wantFaultAt(t, "system S{"+all+"^", api.ErrSyntax)
	parse(t, "system S{"+all+"}system T{}func f(){}")
	wantFaultAt(t, "system S{"+all+"}system T{^die;}", api.ErrLong)

	rest := func(n int) string { return strings.Repeat("die;", n) }
	parse(t, "system S{"+rest(198)+"if a{}else if b{}}")
	wantFaultAt(t, "system S{"+rest(199)+"if a{}else ^if b{}}", api.ErrLong)
	wantFaultAt(t, "system S{"+rest(199)+"if a{}else ^;", api.ErrSyntax)
	wantFaultAt(t, "system S{"+rest(198)+"if a{}else if b{}else ^if c{}}", api.ErrLong)
	parse(t, "system S{"+rest(199)+"if a{}else{}}")
	wantFaultAt(t, "system S{"+rest(199)+"if a{^die;}}", api.ErrLong)
	wantFaultAt(t, "system S{"+rest(199)+"if a{}else{^die;}}", api.ErrLong)
	wantFaultAt(t, "system S{"+rest(198)+"if a{die;}else{^die;}}", api.ErrLong)
	wantFaultAt(t, "system S{"+rest(199)+"while a{}^die;}", api.ErrLong)
	parse(t, "system S{if a{}"+strings.Repeat("else if a{}", 199)+"}")
	wantFaultAt(t, "system S{if a{}"+strings.Repeat("else if a{}", 199)+"else ^if a{}}", api.ErrLong)
}

// deeper is a beginning of each thing that is one deeper, and its end; a ^ stands ahead of the sign that tells so.
var deeper = []struct{ begin, end string }{{"^(", ")"}, {"^-", ""}, {"^!", ""}, {"f^(", ")"}, {"min^(1,", ")"}, {"rand^(", ")"}, {"1^?", ":2"}, {"1^?2:", ""}, {"a+b*c^?", ":1"}}

// TestDeepExpressions: Y1, the first sign behind which it would be deeper than 20.
func TestDeepExpressions(t *testing.T) {
	for _, d := range deeper {
		begin := strings.Replace(d.begin, "^", "", 1)
		for _, blocks := range []int{1, 2, 10, 19, 20} {
			head, tail := "func f()"+strings.Repeat("{while 1", blocks-1)+"{return ", strings.Repeat("}", blocks)
			n := 20 - blocks
			parse(t, head+strings.Repeat(begin, n)+"1"+strings.Repeat(d.end, n)+";"+tail)
			wantFaultAt(t, head+strings.Repeat(begin, n)+d.begin+"1"+strings.Repeat(d.end, n+1)+";"+tail, api.ErrDeep)
			wantFaultAt(t, head+strings.Repeat(begin, n)+d.begin, api.ErrDeep)
			wantFaultAt(t, head+strings.Repeat(begin, n)+d.begin+";", api.ErrDeep)
			wantFaultAt(t, head+strings.Repeat(begin, n)+"^*", api.ErrSyntax)
		}
	}
}

// TestDeepMixed: Y1, things of all kinds within one another.
func TestDeepMixed(t *testing.T) {
	isSign := func(begin string) bool { return begin == "^-" || begin == "^!" }
	for _, first := range deeper {
		for _, second := range deeper {
			begin, end, last := "", "", ""
			for n := range 19 {
				d := first
				if n%2 == 1 {
					d = second
				}
				if isSign(last) && strings.Contains(d.begin, "?") {
					d = deeper[0] // a ? is not in the operand of a sign ahead of it
				}
				begin, end, last = begin+d.begin, d.end+end, d.begin
			}
			begin = strings.ReplaceAll(begin, "^", "")
			parse(t, "func f(){return "+begin+"1"+end+";}")
			for _, d := range deeper {
				if !isSign(last) || !strings.Contains(d.begin, "?") {
					wantFaultAt(t, "func f(){return "+begin+d.begin+"1"+d.end+end+";}", api.ErrDeep)
				}
			}
		}
	}
}

// TestDeepBlocks: Y1, blocks and parts.
func TestDeepBlocks(t *testing.T) {
	for _, head := range []string{"while 1", "repeat 1", "if 1", "if 1{}else", "if 1{}else if 1", "if 1{}else if 2{}else"} {
		begin, end := "system S"+strings.Repeat("{"+head, 19), strings.Repeat("}", 19)
		parse(t, begin+"{}"+end)
		parse(t, begin+"{die;spawn;a=1;emit 1,has(A);}"+end)
		wantFaultAt(t, begin+"{while 1^{}}"+end, api.ErrDeep)
		wantFaultAt(t, begin+"{if 1^{", api.ErrDeep)
		wantFaultAt(t, begin+"{repeat 1^{", api.ErrDeep)
		wantFaultAt(t, begin+"{spawn A^{", api.ErrDeep)
		wantFaultAt(t, begin+"{spawn A^{};}"+end, api.ErrDeep)
		wantFaultAt(t, begin+"{add A^{};}"+end, api.ErrDeep)
		wantFaultAt(t, begin+"{a=^(1);}"+end, api.ErrDeep)
		wantFaultAt(t, begin+"{while ^-1{}}"+end, api.ErrDeep)
		wantFaultAt(t, begin+"{while 1^?", api.ErrDeep)
		wantFaultAt(t, begin+"{emit 1,f^()", api.ErrDeep)
		wantFaultAt(t, begin+"^(", api.ErrSyntax)
		wantFaultAt(t, begin+"{^{", api.ErrSyntax)
		wantFaultAt(t, begin+"{a=^{", api.ErrSyntax)
		wantFaultAt(t, begin+"{a^-", api.ErrSyntax)
		wantFaultAt(t, begin+"{a ^(", api.ErrSyntax)
		wantFaultAt(t, begin+"{a=1^!", api.ErrSyntax)
		wantFaultAt(t, begin+"{a=^?", api.ErrSyntax)
		wantFaultAt(t, begin+"{spawn ^{", api.ErrSyntax)
	}
	seventeen := "system S" + strings.Repeat("{while 1", 17)
	parse(t, seventeen+"{spawn A{x:1},A{x:-1},A{};add A{x:has(A)};}"+strings.Repeat("}", 17))
	wantFaultAt(t, seventeen+"{spawn A{x:1},A{x:-^-1}", api.ErrDeep)
	wantFaultAt(t, seventeen+"{spawn A{x:f(^(1))}", api.ErrDeep)
	wantFaultAt(t, seventeen+"{spawn A{x:1?^-1:2}", api.ErrDeep)
	wantFaultAt(t, seventeen+"{spawn A{x:1?1:^-2}", api.ErrDeep)
	parse(t, "system S{if 1{}"+strings.Repeat("else if 1{}", 150)+"else{}}")
	wantFaultAt(t, "system S{if 1{}"+strings.Repeat("else if 1{}", 50)+"else"+strings.Repeat("{while 1", 19)+"^{", api.ErrDeep)
}

// TestNotDeeper: Y1, what makes nothing deeper, and what is over again.
func TestNotDeeper(t *testing.T) {
	head, tail := "func f(a,b)"+strings.Repeat("{while 1", 19)+"{return ", ";}"+strings.Repeat("}", 19)
	for _, e := range []string{"has(A)", "a.b", "1-1-1-1", "a*b+c<d==e&&f||g", "tick", "1" + strings.Repeat("-1", 1000)} {
		parse(t, head+e+tail)
	}
	head, tail = "func f(a,b)"+strings.Repeat("{while 1", 18)+"{return ", ";}"+strings.Repeat("}", 18)
	for _, e := range []string{"(1)+(2)*(3)", "-1*-1*!1", "(1)?1:2", "f()?1:2", "-1?2:3", "f(1,2)+f(3)", "-a-b", "!a.b", "(a)-(b)", "-has(A)", "1?has(A):2", "f(" + strings.Repeat("1,", 500) + "1)"} {
		parse(t, head+e+tail)
	}
	for _, e := range []string{"(1^?2:3)", "1?^(2):3", "1?2:3^?4:5", "1?2:^-3", "-^(1)", "-f^(1)", "(^-1)", "(1)?^(2):3", "-1?^-2:3", "f(1,^(2))", "f(^(1))", "f(1,2^?3:4)", "1?2^?3:4:5"} {
		wantFaultAt(t, head+e+tail, api.ErrDeep)
	}
	for _, s := range []string{"while(1){}", "while(1){a=(1);}", "if(1){}else if(2){}else{}", "while 1?2:3{}", "spawn A{x:1},B{x:2};add A{};"} {
		parse(t, "func f()"+strings.Repeat("{while 1", 17)+"{"+s+s+strings.Repeat("}", 18))
	}
	wantFaultAt(t, "func f()"+strings.Repeat("{while 1", 18)+"{while(1){a=^(1);}}", api.ErrDeep)
	parse(t, fmt.Sprintf("func f(a){return%s;}", strings.Repeat("(1)-", 1500)+"-1"))
}

// TestFirstLimit: Y1, of several limits the one whose token is the first.
func TestFirstLimit(t *testing.T) {
	deep, full := strings.Repeat("(", 19), strings.Repeat("die;", 199)
	wantFaultAt(t, "system S{"+full+"a="+deep+"^(1);b=1;}", api.ErrDeep)
	wantFaultAt(t, "system S{"+full+"a=1;^b="+deep+"(1;}", api.ErrLong)
	wantFaultAt(t, "system S{a="+deep+"^(1);"+full+"die;}", api.ErrDeep)
	wantFaultAt(t, "system S{a="+deep+"^(*", api.ErrDeep)
	wantFaultAt(t, "system S{a="+deep+"^*(", api.ErrSyntax)
	wantFaultAt(t, "func f(a,b,c,d,^e){return "+deep+"(1", api.ErrLong)
	wantFaultAt(t, "func f(a,b,c,d){return "+deep+"^(1", api.ErrDeep)
	wantFaultAt(t, strings.Repeat("system S{}", 16)+"func f(a,b,c,d,^e){}system S{}", api.ErrLong)
	wantFaultAt(t, strings.Repeat("system S{}", 16)+"^system S{"+full+"die;die;", api.ErrLong)
}
