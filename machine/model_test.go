package machine_test

import (
	"fmt"
	"math/big"
	"math/rand"
	"slices"
	"strings"
	"testing"

	"hindcast/api"
	"hindcast/dice"
	"hindcast/machine"
)

// opWords has the ops' words, in their order, each with what it takes and puts (c, n: what hangs on A).
var opWords = strings.Fields("push01 load01 store10 field01 put10 add21 sub21 mul21 div21 rem21 neg11 eq21 ne21 lt21 le21 gt21 ge21 not11 jump00 zero10 callc1 ret10 stop00 step00 emit20 partn0 spawn00 given0 take00 die00 rand11 tick01 me01 input21 has01 min21 max21 abs11 drop10")

// model does a run as the chapter tells it: a moment after the other, all of whose numbers are big ones, and asks by words.
type model struct {
	p      api.Program
	s      api.System
	number int
	e      api.Env
	acts   []*modelAct
	put    map[[2]int64]*big.Int // values that were put, by kind and field
	dice   *dice.Dice
	kept   []api.Part
	o      api.Outcome
	idle   int
	ways   map[string]int // is told which instructions were done
}

type modelAct struct {
	r      api.Routine
	count  int // of locals
	locals map[int64]*big.Int
	stack  []*big.Int
	next   int64
}

// modelRun is what machine.Run tells, by the model.
func modelRun(p api.Program, system int, e api.Env, ways map[string]int) api.Outcome {
	if system < 0 || system > len(p.Systems)-1 {
		return api.Outcome{Err: api.ErrSystem}
	}
	m := &model{p: p, s: p.Systems[system], number: system, e: e, put: map[[2]int64]*big.Int{}, dice: dice.New(e.Seed, e.Frame, system, e.Row.E.Index), ways: ways}
	m.acts = []*modelAct{{r: m.s.Run, count: min(max(m.s.Run.Locals, 0), 32), locals: map[int64]*big.Int{}}}
	for {
		if why, stopped := m.moment(); why != api.OK {
			return api.Outcome{Steps: m.o.Steps, Err: why}
		} else if stopped {
			break
		}
	}
	for kind := -20; kind <= 20; kind++ { // those that the tests have
		if part := m.part(int64(kind)); part != nil && slices.Contains(m.s.Writes, kind) {
			is := api.Part{Kind: kind}
			for field := range part.Values {
				is.Values = append(is.Values, m.value(int64(kind), int64(field)).Int64())
			}
			m.o.Values = append(m.o.Values, is)
		}
	}
	return m.o
}

// part is the first one of a kind in the row.
func (m *model) part(kind int64) *api.Part {
	for i := range m.e.Row.Parts {
		if int64(m.e.Row.Parts[i].Kind) == kind {
			return &m.e.Row.Parts[i]
		}
	}
	return nil
}

func (m *model) value(kind, field int64) *big.Int {
	if x, ok := m.put[[2]int64{kind, field}]; ok {
		return x
	}
	return big.NewInt(m.part(kind).Values[field])
}

// effect reads the word of an op, and what it takes and puts.
func (m *model) effect(i api.Instr) (word string, takes, puts int) {
	if i.Op < 1 || i.Op > len(opWords) {
		return "", 0, 0
	}
	text := opWords[i.Op-1]
	word, puts = text[:len(text)-2], int(text[len(text)-1]-'0')
	switch takenBy := text[len(text)-2]; takenBy {
	case 'n':
		if i.A >= 0 {
			takes = int(i.A % 8)
		}
	case 'c':
		if i.A >= 0 && i.A < int64(len(m.p.Funcs)) {
			takes = max(0, m.p.Funcs[i.A].Params)
		}
	default:
		takes = int(takenBy - '0')
	}
	return word, takes, puts
}

// moment asks all that is asked ahead of an instruction, and does it.
func (m *model) moment() (why api.Errno, stopped bool) {
	a := m.acts[len(m.acts)-1]
	if a.next < 0 || a.next >= int64(len(a.r.Code)) {
		return api.ErrJump, false
	}
	if m.idle >= 40000 {
		return api.ErrEnd, false
	}
	i := a.r.Code[a.next]
	word, takes, puts := m.effect(i)
	if word == "" {
		return api.ErrAccess, false
	}
	if len(a.stack) < takes || len(a.stack)-takes+puts > 64 {
		return api.ErrStack, false
	}
	if m.touches(a, word, i.A) {
		return api.ErrAccess, false
	}
	if is(word, "spawn give take die") && len(m.o.Commands) >= 16 || word == "emit" && len(m.o.Events) >= 16 {
		return api.ErrLong, false
	}
	m.ways[word]++
	m.idle++
	a.next++
	taken := slices.Clone(a.stack[len(a.stack)-takes:])
	a.stack = slices.Clone(a.stack[:len(a.stack)-takes])
	if is(word, "step call") {
		m.o.Steps++
		m.idle = 0
		if m.o.Steps > 2000 {
			return api.ErrFuel, false
		}
	}
	if answer := m.does(a, word, i.A, taken); answer != nil {
		to := m.acts[len(m.acts)-1]
		to.stack = append(to.stack, wrapped(answer))
	}
	return api.OK, word == "stop"
}

func is(word, words string) bool { return strings.Contains(" "+words+" ", " "+word+" ") }

// touches tells whether an instruction touches what it may not.
func (m *model) touches(a *modelAct, word string, n int64) bool {
	inSystem := len(m.acts) == 1
	noKind := func(kind int64) bool { return kind < 1 || kind > 12 }
	declared := func(set []int) bool { return slices.Contains(set, int(n/8)) }
	switch {
	case is(word, "field put emit part spawn give take die has stop") && !inSystem, word == "ret" && inSystem:
		return true
	case is(word, "load store"):
		return n < 0 || n >= int64(a.count)
	case is(word, "field put"):
		part := m.part(n / 8)
		if n < 0 || part == nil || n%8 >= int64(len(part.Values)) {
			return true
		}
		return !declared(m.s.Writes) && (word == "put" || !declared(m.s.Reads))
	case word == "call":
		return n < 0 || n >= int64(len(m.p.Funcs)) || len(m.acts) == 17
	case is(word, "part give"):
		return noKind(n/8) || word == "part" && len(m.kept) == 12
	case is(word, "take has"):
		return noKind(n)
	}
	return false
}

// wrapped is a number as 64 bits with a sign.
func wrapped(x *big.Int) *big.Int {
	whole := new(big.Int).Lsh(big.NewInt(1), 64)
	x = new(big.Int).Mod(x, whole)
	if x.Bit(63) == 1 {
		x.Sub(x, whole)
	}
	return x
}

func numbers(list []*big.Int) []int64 {
	var all []int64
	for _, x := range list {
		all = append(all, x.Int64())
	}
	return all
}

// does does an instruction, and gives what it puts; nil: nothing.
func (m *model) does(a *modelAct, word string, n int64, taken []*big.Int) *big.Int {
	who := m.e.Row.E
	switch word {
	case "push":
		return big.NewInt(n)
	case "load":
		if x, ok := a.locals[n]; ok {
			return x
		}
		return new(big.Int)
	case "store":
		a.locals[n] = taken[0]
	case "field":
		return m.value(n/8, n%8)
	case "put":
		m.put[[2]int64{n / 8, n % 8}] = taken[0]
	case "jump":
		a.next = n
	case "zero":
		if taken[0].Sign() == 0 {
			a.next = n
		}
	case "call":
		f := &modelAct{r: m.p.Funcs[n], locals: map[int64]*big.Int{}}
		f.count = max(min(max(f.r.Locals, 0), 32), len(taken))
		for k, x := range taken {
			f.locals[int64(k)] = x
		}
		m.acts = append(m.acts, f)
	case "ret":
		m.acts = m.acts[:len(m.acts)-1]
		return taken[0]
	case "emit":
		m.o.Events = append(m.o.Events, api.Event{System: m.number, E: who, Code: taken[0].Int64(), Value: taken[1].Int64()})
	case "part":
		at := 0 // behind all whose kind is not greater
		for at < len(m.kept) && int64(m.kept[at].Kind) <= n/8 {
			at++
		}
		m.kept = slices.Insert(slices.Clone(m.kept), at, api.Part{Kind: int(n / 8), Values: numbers(taken)})
	case "spawn":
		m.o.Commands = append(m.o.Commands, api.Command{Op: api.OpSpawn, Parts: m.kept})
		m.kept = nil
	case "give":
		m.o.Commands = append(m.o.Commands, api.Command{Op: api.OpAdd, E: who, Kind: int(n / 8), Values: numbers(taken)})
	case "take":
		m.o.Commands = append(m.o.Commands, api.Command{Op: api.OpRemove, E: who, Kind: int(n)})
	case "die":
		m.o.Commands = append(m.o.Commands, api.Command{Op: api.OpDespawn, E: who})
	case "rand":
		return big.NewInt(m.dice.Below(taken[0].Int64()))
	case "tick":
		return big.NewInt(int64(m.e.Frame))
	case "me":
		return big.NewInt(int64(who.Index))
	case "input":
		for _, in := range slices.Backward(m.e.Inputs) {
			if taken[0].Cmp(big.NewInt(int64(in.Player))) == 0 && taken[1].Cmp(big.NewInt(int64(in.Key))) == 0 {
				return big.NewInt(in.Value)
			}
		}
		return new(big.Int)
	case "has":
		return one(m.part(n) != nil)
	default:
		return reckoned(word, taken)
	}
	return nil
}

func one(is bool) *big.Int {
	if is {
		return big.NewInt(1)
	}
	return new(big.Int)
}

func reckoned(word string, taken []*big.Int) *big.Int {
	x, w := new(big.Int), new(big.Int)
	if len(taken) > 0 {
		x = taken[len(taken)-1]
	}
	if len(taken) > 1 {
		w = taken[0]
	}
	order := w.Cmp(x)
	switch word {
	case "add":
		return new(big.Int).Add(w, x)
	case "sub":
		return new(big.Int).Sub(w, x)
	case "mul":
		return new(big.Int).Mul(w, x)
	case "div", "rem":
		if x.Sign() == 0 {
			return x
		}
		quotient, rest := new(big.Int).QuoRem(w, x, new(big.Int))
		if word == "rem" {
			return rest
		}
		return quotient
	case "neg":
		return new(big.Int).Neg(x)
	case "abs":
		return new(big.Int).Abs(x)
	case "not":
		return one(x.Sign() == 0)
	case "eq":
		return one(order == 0)
	case "ne":
		return one(order != 0)
	case "lt":
		return one(order < 0)
	case "le":
		return one(order <= 0)
	case "gt":
		return one(order > 0)
	case "ge":
		return one(order >= 0)
	case "min", "max":
		if (order < 0) == (word == "min") {
			return w
		}
		return x
	}
	return nil
}

// shown writes a program.
func shown(p api.Program) string {
	routine := func(r api.Routine) string {
		text := fmt.Sprintf("(%d, %d)", r.Params, r.Locals)
		for n, i := range r.Code {
			word := fmt.Sprint(i.Op)
			if i.Op > 0 && i.Op <= len(opWords) {
				word = opWords[i.Op-1]
				word = word[:len(word)-2]
			}
			text += fmt.Sprintf(" %d:%s", n, word)
			if i.A != 0 {
				text += fmt.Sprint(" ", i.A)
			}
		}
		return text
	}
	text := ""
	for _, s := range p.Systems {
		text += fmt.Sprintf("\nsystem reads %v writes %v %s", s.Reads, s.Writes, routine(s.Run))
	}
	for _, f := range p.Funcs {
		text += "\nfunc " + routine(f)
	}
	return text
}

// compare holds a run against the model, and gives how it ended.
func compare(t testing.TB, p api.Program, system int, e api.Env, ways map[string]int) api.Errno {
	t.Helper()
	o := machine.Run(p, system, e)
	if got, want := told(o), told(modelRun(p, system, e, ways)); got != want {
		t.Fatalf("K1: the system %d of %s\nfor %+v:\n%s, want\n%s", system, shown(p), e, got, want)
	}
	return o.Err
}

// TestModel: K1, grown programs, whole and spoilt ones, for all sorts of entities.
func TestModel(t *testing.T) {
	ends, ways := map[api.Errno]int{}, map[string]int{}
	for seed := range 2500 {
		r := rand.New(rand.NewSource(int64(seed)))
		p := grow(r)
		for range seed % 4 {
			spoil(r, &p)
		}
		for system := range p.Systems {
			ends[compare(t, p, system, someEnv(r), ways)]++
		}
	}
	for _, e := range []api.Errno{api.OK, api.ErrJump, api.ErrEnd, api.ErrAccess, api.ErrStack, api.ErrLong, api.ErrFuel} {
		if ends[e] < 50 {
			t.Errorf("the test's own programs end in too few ways: %v", ends)
		}
	}
	for _, text := range opWords {
		if word := text[:len(text)-2]; ways[word] < 200 {
			t.Errorf("the test's own programs do %s but %d times", word, ways[word])
		}
	}
}

// TestAnyCode: K1 and P1, code that is left to chance, of ops and numbers of all sorts.
func TestAnyCode(t *testing.T) {
	ends := map[api.Errno]int{}
	for seed := range 8000 {
		r := rand.New(rand.NewSource(int64(seed)))
		p := anyProgram(r)
		ends[compare(t, p, r.Intn(len(p.Systems)), someEnv(r), map[string]int{})]++
	}
	for _, e := range []api.Errno{api.OK, api.ErrJump, api.ErrEnd, api.ErrAccess, api.ErrStack, api.ErrLong, api.ErrFuel} {
		if ends[e] == 0 {
			t.Errorf("the test's own code ends in too few ways: %v", ends)
		}
	}
}
