package syntax_test

import (
	"math/rand"
	"regexp"
	"slices"
	"strings"
	"testing"

	"hindcast/api"
	"hindcast/lex"
	"hindcast/syntax"
)

// The chapter's grammar, with marks: of what is counted ahead of its first token, of what is deeper behind its sign (DEEP), and where that is over (UP).
const grammarText = `
program = { system | func }*
system  = SYSTEM "system" NAME [ "with" names ] [ "without" names ] [ "reads" names ] [ "writes" names ] block
func    = FUNC "func" NAME "(" [ params ] ")" block
params  = PARAM NAME { "," PARAM NAME }*
names   = NAME { "," NAME }*
block   = DEEP "{" { stmt }* "}" UP
stmt    = STMT "let" NAME "=" cond ";" | STMT NAME "=" cond ";" | STMT NAME "." NAME "=" cond ";"
        | if | STMT "while" cond block | STMT "repeat" cond block | STMT "emit" cond "," cond ";"
        | STMT "spawn" [ part { "," part }* ] ";" | STMT "add" part ";" | STMT "remove" NAME ";"
        | STMT "die" ";" | STMT "stop" ";" | STMT "return" cond ";"
if      = STMT "if" cond block [ "else" ( block | if ) ]
part    = NAME DEEP "{" [ NAME ":" cond { "," NAME ":" cond }* ] "}" UP
cond    = or [ DEEP "?" cond ":" cond UP ]
or      = and { "||" and }*
and     = eq { "&&" eq }*
eq      = rel { ( "==" | "!=" ) rel }*
rel     = sum { ( "<" | "<=" | ">" | ">=" ) sum }*
sum     = term { ( "+" | "-" ) term }*
term    = unary { ( "*" | "/" | "%" ) unary }*
unary   = DEEP ( "-" | "!" ) unary UP | primary
primary = NUMBER | NAME | NAME "." NAME | NAME args | ( "rand" | "input" | "min" | "max" | "abs" ) args
        | "has" "(" NAME ")" | "tick" | "me" | DEEP "(" cond ")" UP
args    = DEEP "(" [ cond { "," cond }* ] ")" UP
`

// piece is a part of the grammar: a word or sign in quotes, a name or mark, or one of several ways.
type piece struct {
	kind byte // '"', 'n', or '|'
	text string
	ways [][]*piece
}

// readGrammar reads it: each name's ways.
func readGrammar(text string) map[string]*piece {
	rules := map[string]*piece{}
	token := regexp.MustCompile(`"[^"]*"|\}\*|[A-Za-z]+|[][(){|]`)
	lines := regexp.MustCompile(`\n([a-z]+)\s*=`).ReplaceAllString(text, "\x00$1 ")
	for _, rule := range strings.Split(lines, "\x00")[1:] {
		tokens := token.FindAllString(rule, -1)
		rest := tokens[1:]
		rules[tokens[0]] = readWays(&rest, "")
	}
	return rules
}

// readWays reads ways up to a bracket's end, of which nothing is one if the bracket says perhaps.
func readWays(rest *[]string, end string) *piece {
	p := &piece{kind: '|', ways: [][]*piece{nil}}
	for len(*rest) > 0 && (*rest)[0] != end {
		token := (*rest)[0]
		*rest = (*rest)[1:]
		last := &p.ways[len(p.ways)-1]
		switch {
		case token == "|":
			p.ways = append(p.ways, nil)
		case token == "(":
			*last = append(*last, readWays(rest, ")"))
		case token == "[":
			*last = append(*last, readWays(rest, "]"))
		case token == "{":
			*last = append(*last, readWays(rest, "}*"))
		case token[0] == '"':
			*last = append(*last, &piece{kind: '"', text: strings.Trim(token, `"`)})
		default:
			*last = append(*last, &piece{kind: 'n', text: token})
		}
	}
	if end != "" {
		*rest = (*rest)[1:]
	}
	if end == "}*" {
		for i := range p.ways {
			p.ways[i] = append(p.ways[i], p)
		}
	}
	if end == "}*" || end == "]" {
		p.ways = append(p.ways, nil)
	}
	return p
}

// chain is what must still come.
type chain struct {
	first *piece
	rest  *chain
}

// state is one way in which the tokens so far may have been read.
type state struct {
	todo                                      *chain
	depth, systems, funcs, params, statements int
	fault                                     api.Errno // of the next token, if it goes on so
}

var grammar = readGrammar(grammarText)

// mark does what a mark says.
func (s state) mark(name string) state {
	limit := func(n *int, most int, fault api.Errno) {
		if *n++; *n > most {
			s.fault = fault
		}
	}
	switch name {
	case "SYSTEM":
		limit(&s.systems, 16, api.ErrLong)
	case "FUNC":
		s.params = 0
		limit(&s.funcs, 16, api.ErrLong)
	case "PARAM":
		limit(&s.params, 4, api.ErrLong)
	case "STMT":
		limit(&s.statements, 200, api.ErrLong)
	case "DEEP":
		limit(&s.depth, 20, api.ErrDeep)
	case "UP":
		s.depth--
	}
	return s
}

// onward finds all states behind a token.
func (s state) onward(token api.Token, out *[]state) {
	if s.todo == nil {
		if token.Kind == api.TokEnd {
			*out = append(*out, s)
		}
		return
	}
	first := s.todo.first
	s.todo = s.todo.rest
	switch {
	case first.kind == '|':
		for _, way := range first.ways {
			branch := s
			for _, p := range slices.Backward(way) {
				branch.todo = &chain{p, branch.todo}
			}
			branch.onward(token, out)
		}
	case first.kind == 'n' && grammar[first.text] != nil:
		s.todo = &chain{grammar[first.text], s.todo}
		s.onward(token, out)
	case first.kind == 'n' && first.text != "NAME" && first.text != "NUMBER":
		s.mark(first.text).onward(token, out)
	case fits(first, token):
		*out = append(*out, s)
	}
}

func fits(p *piece, token api.Token) bool {
	switch {
	case p.kind == '"':
		return token.Text == p.text
	case p.text == "NUMBER":
		return token.Kind == api.TokNumber
	}
	return token.Kind == api.TokWord && !slices.Contains(lex.Words(), token.Text)
}

// faultOf is the fault of a source by the chapter's words, nil if it is a program.
func faultOf(t *testing.T, src string) *api.Fault {
	t.Helper()
	tokens, err := lex.Lex(src)
	if err != nil {
		return err.(*api.Fault)
	}
	states := []state{{todo: &chain{grammar["program"], nil}}}
	for _, token := range tokens {
		var next []state
		for _, s := range states {
			s.onward(token, &next)
		}
		if len(next) == 0 {
			return &api.Fault{At: token.At, Err: api.ErrSyntax}
		}
		for _, s := range next {
			if s.fault != next[0].fault {
				t.Fatalf("the model tells two faults of %q at %d", src, token.At)
			}
		}
		if next[0].fault != api.OK {
			return &api.Fault{At: token.At, Err: next[0].fault}
		}
		states = next
	}
	return nil
}

// compare holds all that is promised of a source against the model, and tells whether it is a program.
func compare(t *testing.T, src string) bool {
	t.Helper()
	if fault := faultOf(t, src); fault != nil {
		wantFault(t, src, fault.At, fault.Err)
		return false
	}
	n, err := syntax.Parse(src)
	if err != nil || n == nil {
		t.Errorf("Y1: Parse(%q): %v, %v, want a tree", src, n, err)
		return false
	}
	wantAgain(t, n)
	return true
}

// wantAgain: what follows, of a tree that Parse made.
func wantAgain(t *testing.T, n *syntax.Node) {
	t.Helper()
	if !isRight(n) {
		t.Errorf("Y1: Parse makes what is not well formed: %s", show(n, true))
	}
	if sum := countOps(n, syntax.System); sum > 16 {
		t.Errorf("Y1: Parse takes %d systems", sum)
	}
	if sum := countOps(n, syntax.Func); sum > 16 {
		t.Errorf("Y1: Parse takes %d functions", sum)
	}
	if sum := countOps(n, syntax.Let, syntax.Set, syntax.SetField, syntax.If, syntax.While, syntax.Repeat, syntax.Emit, syntax.Spawn, syntax.Add, syntax.Remove, syntax.Die, syntax.Stop, syntax.Return); sum > 200 {
		t.Errorf("Y1: Parse takes %d statements", sum)
	}
	text := syntax.Print(n)
	if want := written(n); text != want {
		t.Errorf("Y2: Print of %s:\n%q, want\n%q", show(n, false), text, want)
	}
	if len(text) > 8000 {
		return
	}
	again, err := syntax.Parse(text)
	if err != nil || !syntax.Same(n, again) || show(n, false) != show(again, false) {
		t.Errorf("Y2: Parse of %q is another tree: %v", text, err)
	}
	if err == nil && syntax.Print(again) != text {
		t.Errorf("Y2: Print of Parse of %q: %q", text, syntax.Print(again))
	}
}

func countOps(n *syntax.Node, ops ...int) int {
	sum := 0
	if slices.Contains(ops, n.Op) {
		sum++
	}
	for _, child := range n.L {
		sum += countOps(child, ops...)
	}
	return sum
}

// allTokens has each word that means something, each sign, names and numbers.
func allTokens() []string {
	return append(strings.Fields("a b A x 0 1 7 == != <= >= && || + - * / % < > ! = ( ) { } , ; : ? ."), lex.Words()...)
}

// TestEveryToken: Y1, every token behind every beginning, with every other one behind it.
func TestEveryToken(t *testing.T) {
	for _, begin := range []string{
		"", "system", "system S", "system S with A", "system S without A,", "system S {", "func f", "func f(", "func f(a", "func f()", "func f() {} ",
		"system S { let", "system S { let a", "system S { a", "system S { a.", "system S { a.b", "system S { a =", "system S { a = 1", "system S { a = b", "system S { a = b.", "system S { a = b.c", "system S { a = f(", "system S { a = f(1,", "system S { a = (1", "system S { a = -", "system S { a = 1 ?", "system S { a = 1 ? 2", "system S { a = 1 ? 2 :",
		"system S { a = has", "system S { a = has(", "system S { a = has(A", "system S { a = tick", "system S { a = min", "system S { if", "system S { if a {}", "system S { if a {} else", "system S { while a", "system S { emit 1", "system S { emit 1, 2", "system S { spawn", "system S { spawn A", "system S { spawn A{", "system S { spawn A{x", "system S { spawn A{x: 1", "system S { spawn A{}", "system S { add", "system S { remove", "system S { die", "system S { stop;", "system S { return",
	} {
		compare(t, begin)
		for _, one := range allTokens() {
			compare(t, begin+" "+one)
			for _, two := range allTokens() {
				compare(t, begin+" "+one+" "+two)
			}
		}
	}
}

// TestShortExpressions: Y1 and Y2, every short row of tokens that stand for all others.
func TestShortExpressions(t *testing.T) {
	rows := []string{""}
	for range 5 {
		var next []string
		for _, row := range rows {
			if compare(t, "func f(){return "+row+";}") || row == "" {
				compare(t, "func f(){spawn A{x:"+row+"};}")
			}
			for _, token := range strings.Fields("a 1 ( ) - * < ? : ! f( . , has me") {
				next = append(next, row+" "+token)
			}
		}
		rows = next
	}
}

// TestGrown: Y1 and Y2, sources that were written along the grammar, with the tree that they are.
func TestGrown(t *testing.T) {
	for seed := range 1500 {
		src, want := grow(rand.New(rand.NewSource(int64(seed))))
		if len(src) > 8000 {
			continue
		}
		n, err := syntax.Parse(src)
		if err != nil || show(n, true) != show(want, true) {
			t.Fatalf("Y1: Parse(%q): %v,\n%s, want\n%s", src, err, show(n, true), show(want, true))
		}
		wantAgain(t, n)
	}
}

// spoilt changes some tokens of a source.
func spoilt(r *rand.Rand, src string) string {
	tokens, _ := lex.Lex(src)
	var texts []string
	for _, token := range tokens[:len(tokens)-1] {
		texts = append(texts, token.Text)
	}
	all := allTokens()
	for range 1 + r.Intn(2) {
		if len(texts) == 0 {
			return ""
		}
		i, k := r.Intn(len(texts)), r.Intn(len(texts))
		switch r.Intn(6) {
		case 0:
			texts = slices.Delete(texts, i, i+1)
		case 1:
			texts = slices.Insert(texts, i, all[r.Intn(len(all))])
		case 2:
			texts[i] = all[r.Intn(len(all))]
		case 3:
			texts[i], texts[k] = texts[k], texts[i]
		case 4:
			texts = texts[:i]
		case 5:
			texts = slices.Insert(texts, i, slices.Clone(texts[min(i, k):max(i, k)])...)
		}
	}
	return strings.Join(texts, " ")
}

// TestSpoilt: Y1, sources in which something was changed.
func TestSpoilt(t *testing.T) {
	taken := 0
	for seed := range 4000 {
		r := rand.New(rand.NewSource(int64(seed)))
		src, _ := grow(r)
		if len(src) <= 8000 && compare(t, spoilt(r, src)) {
			taken++
		}
	}
	if taken < 100 {
		t.Errorf("of all spoilt sources only %d are programs", taken)
	}
}

// FuzzParse: Y1 and P1, at any text.
func FuzzParse(f *testing.F) {
	for seed := range 50 {
		src, _ := grow(rand.New(rand.NewSource(int64(seed))))
		f.Add(src)
	}
	f.Add("system S{a=" + strings.Repeat("(", 20))
	f.Add("system S{" + strings.Repeat("die;", 201) + "}")
	f.Fuzz(func(t *testing.T, src string) { compare(t, src) })
}
