package verify_test

import (
	"math/rand"
	"slices"
	"strconv"

	"hindcast/api"
	"hindcast/code"
)

// grower writes a routine that fits its stack, and touches what it may; whether its rounds have steps is left to chance.
type grower struct {
	*rand.Rand
	kinds    []api.Kind
	system   *api.System // nil of a function
	locals   int
	funcs    []api.Routine // all that there will be: only those from callable on are called
	callable int
	list     []api.Instr
	depth    int
	marks    []mark // places that may be jumped to
	leaps    []mark // jumps whose end is not there yet
	stepless bool   // it has few steps
}

// mark is an instruction, and how deep the stack is ahead of it (of a leap: behind it).
type mark struct {
	at, depth int
}

// grow gives a program, and kinds for it; most are taken.
func grow(r *rand.Rand) (api.Program, []api.Kind) {
	kinds := someKinds(r)
	var p api.Program
	for i := range r.Intn(5) {
		params := r.Intn(5)
		p.Funcs = append(p.Funcs, api.Routine{Name: "f" + strconv.Itoa(i), Params: params, Locals: params + r.Intn(4)})
	}
	for i := range r.Intn(4) {
		s := api.System{With: someSet(r, kinds), Without: someSet(r, kinds), Reads: someSet(r, kinds), Writes: someSet(r, kinds)}
		s.Run = api.Routine{Name: "s" + strconv.Itoa(i), Locals: r.Intn(4)}
		g := &grower{Rand: r, kinds: kinds, system: &s, locals: s.Run.Locals, funcs: p.Funcs, stepless: r.Intn(8) == 0}
		s.Run.Code = g.code()
		p.Systems = append(p.Systems, s)
	}
	for i, f := range p.Funcs {
		g := &grower{Rand: r, kinds: kinds, locals: f.Locals, funcs: p.Funcs, callable: i + 1, stepless: r.Intn(8) == 0}
		p.Funcs[i].Code = g.code()
	}
	return p, kinds
}

func someKinds(r *rand.Rand) []api.Kind {
	var list []api.Kind
	for i := range 1 + r.Intn(12) {
		list = append(list, api.Kind{Name: "K" + strconv.Itoa(i), Fields: []string{"a", "b", "c", "d"}[:r.Intn(5)]})
	}
	return list
}

func someSet(r *rand.Rand, kinds []api.Kind) []int {
	var set []int
	for i := range kinds {
		if r.Intn(3) == 0 {
			set = append(set, i+1)
		}
	}
	return set
}

func (g *grower) lay(op int, a int64) {
	i := api.Instr{Op: op, A: a}
	takes, puts := code.Effect(i, g.funcs)
	g.list = append(g.list, i)
	g.depth += puts - takes
}

func (g *grower) mark() { g.marks = append(g.marks, mark{len(g.list), g.depth}) }

func (g *grower) code() []api.Instr {
	for range 1 + g.Intn(30)>>g.Intn(4) {
		g.land()
		if g.Intn(3) == 0 {
			g.mark()
		}
		if !g.stepless && g.Intn(2) == 0 {
			g.lay(code.Step, 0)
		}
		g.piece()
	}
	g.end()
	for _, l := range g.leaps { // those that found no place get an end of their own
		g.depth = l.depth
		g.list[l.at].A = int64(len(g.list))
		g.end()
	}
	return g.list
}

// land lets some leaps end here.
func (g *grower) land() {
	g.leaps = slices.DeleteFunc(g.leaps, func(l mark) bool {
		if l.depth != g.depth || g.Intn(3) == 0 {
			return false
		}
		g.list[l.at].A = int64(len(g.list))
		return true
	})
}

func (g *grower) end() {
	if g.system != nil {
		g.lay(code.Stop, 0)
		return
	}
	if g.depth == 0 {
		g.value()
	}
	g.lay(code.Ret, 0)
}

// value puts one number on the stack.
func (g *grower) value() {
	switch c := g.Intn(6); {
	case c == 0 && g.locals > 0:
		g.lay(code.Load, int64(g.Intn(g.locals)))
	case c == 1:
		g.lay(code.Tick, 0)
	case c == 2 && g.system != nil:
		g.lay(code.Has, int64(1+g.Intn(len(g.kinds))))
	case c == 3 && g.system != nil:
		if a, ok := g.field(append(slices.Clone(g.system.Reads), g.system.Writes...)); ok {
			g.lay(code.Field, a)
			return
		}
		g.lay(code.Me, 0)
	default:
		g.lay(code.Push, int64(g.Intn(9)-2))
	}
}

// field is A of a field of one of these kinds.
func (g *grower) field(set []int) (int64, bool) {
	if len(set) == 0 {
		return 0, false
	}
	kind := set[g.Intn(len(set))]
	count := len(g.kinds[kind-1].Fields)
	if count == 0 {
		return 0, false
	}
	return int64(kind*8 + g.Intn(count)), true
}

// piece lays down something that fits.
func (g *grower) piece() {
	switch c := g.Intn(16); {
	case c < 3 && g.depth < 60:
		for range 1 + g.Intn(3) {
			g.value()
		}
	case c < 6 && g.depth > 0:
		g.reckon()
	case c == 6 && g.depth > 0:
		g.keep()
	case c == 7 && g.depth < 60 && g.callable < len(g.funcs):
		g.call()
	case c < 11:
		g.leap()
	case c == 11 && len(g.marks) > 0:
		g.back()
	case c > 11 && g.system != nil && g.depth < 30:
		g.tell()
	default:
		g.value()
		g.lay(code.Drop, 0)
	}
}

func (g *grower) reckon() {
	if g.depth > 1 {
		g.lay([]int{code.Add, code.Sub, code.Mul, code.Div, code.Rem, code.Eq, code.Ne, code.Lt, code.Le, code.Gt, code.Ge, code.Input, code.Min, code.Max}[g.Intn(14)], 0)
		return
	}
	g.lay([]int{code.Neg, code.Not, code.Rand, code.Abs}[g.Intn(4)], 0)
}

// keep takes a number from the stack.
func (g *grower) keep() {
	if g.system != nil {
		if a, ok := g.field(g.system.Writes); ok {
			g.lay(code.Put, a)
			return
		}
	}
	if g.locals > 0 {
		g.lay(code.Store, int64(g.Intn(g.locals)))
	} else {
		g.lay(code.Drop, 0)
	}
}

func (g *grower) call() {
	f := g.callable + g.Intn(len(g.funcs)-g.callable)
	for range g.funcs[f].Params {
		g.value()
	}
	g.lay(code.Call, int64(f))
}

// leap lays down a jump ahead; behind one that always jumps nobody may come.
func (g *grower) leap() {
	op := code.Zero
	if g.Intn(3) == 0 {
		op = code.Jump
	} else {
		g.value()
	}
	g.lay(op, 0)
	g.leaps = append(g.leaps, mark{len(g.list) - 1, g.depth})
}

// back lays down a jump to a place that is there already, if one has this depth.
func (g *grower) back() {
	fits := slices.DeleteFunc(slices.Clone(g.marks), func(m mark) bool { return m.depth != g.depth })
	if len(fits) == 0 {
		return
	}
	if !g.stepless {
		g.lay(code.Step, 0)
	}
	g.value()
	g.lay(code.Zero, int64(fits[g.Intn(len(fits))].at))
}

// tell lays down something that is told, or asked for.
func (g *grower) tell() {
	switch g.Intn(5) {
	case 0:
		g.value()
		g.value()
		g.lay(code.Emit, 0)
	case 1:
		g.spawn()
	case 2:
		kind := 1 + g.Intn(len(g.kinds))
		g.values(kind)
		g.lay(code.Give, g.part(kind))
	case 3:
		g.lay(code.Take, int64(1+g.Intn(len(g.kinds))))
	case 4:
		g.lay(code.Die, 0)
	}
}

func (g *grower) values(kind int) {
	for range g.kinds[kind-1].Fields {
		g.value()
	}
}

func (g *grower) part(kind int) int64 { return int64(kind*8 + len(g.kinds[kind-1].Fields)) }

func (g *grower) spawn() {
	var parts []int
	for i := range g.kinds {
		if g.Intn(5) == 0 && len(parts) < 6 {
			parts = append(parts, i+1)
		}
	}
	if g.Intn(6) == 0 { // a long row of parts without values
		for i, k := range g.kinds {
			if len(k.Fields) == 0 {
				parts = append(parts, slices.Repeat([]int{i + 1}, 10-len(parts))...)
				break
			}
		}
	}
	for _, kind := range slices.Backward(parts) {
		g.values(kind)
	}
	for _, kind := range parts {
		g.lay(code.Part, g.part(kind))
	}
	g.lay(code.Spawn, 0)
}

// spoil changes one thing of a program, which may be taken still.
func spoil(r *rand.Rand, p *api.Program) {
	var all []*api.Routine
	for i := range p.Systems {
		all = append(all, &p.Systems[i].Run)
	}
	for i := range p.Funcs {
		all = append(all, &p.Funcs[i])
	}
	if len(all) == 0 {
		p.Funcs = make([]api.Routine, 1)
		return
	}
	x := all[r.Intn(len(all))]
	switch c := r.Intn(24); {
	case c == 0:
		x.Locals += r.Intn(5) - 2
	case c == 1 && len(p.Funcs) > 0:
		f := &p.Funcs[r.Intn(len(p.Funcs))]
		f.Params = min(r.Intn(6), f.Locals)
	case c == 2 && len(p.Systems) > 0:
		s := &p.Systems[r.Intn(len(p.Systems))]
		set := []*[]int{&s.With, &s.Without, &s.Reads, &s.Writes}[r.Intn(4)]
		*set = [][]int{nil, {1 + r.Intn(3)}, {1, 2 + r.Intn(12)}, {r.Intn(14)}}[r.Intn(4)]
	case c == 3 && len(p.Funcs) > 0:
		x.Code = slices.Insert(x.Code, 0, api.Instr{Op: code.Call, A: int64(r.Intn(len(p.Funcs) + 1))}, api.Instr{Op: code.Drop})
	case c == 4:
		x.Code = slices.Repeat(x.Code, 2)
	case c == 5:
		x.Name = []string{"", "another name", "\xff"}[r.Intn(3)]
	default:
		spoilCode(r, x)
	}
}

func spoilCode(r *rand.Rand, x *api.Routine) {
	if len(x.Code) == 0 {
		return
	}
	at := r.Intn(len(x.Code))
	i := x.Code[at]
	switch r.Intn(9) {
	case 0, 1:
		for n := range x.Code { // the next jump is led elsewhere
			k := (at + n) % len(x.Code)
			if op := x.Code[k].Op; op == code.Jump || op == code.Zero {
				x.Code[k].A = int64(r.Intn(len(x.Code)+3) - 1)
				return
			}
		}
	case 2:
		x.Code[at] = api.Instr{Op: code.Jump, A: int64(r.Intn(len(x.Code) + 1))}
	case 3:
		x.Code = slices.Delete(x.Code, at, at+1)
	case 4:
		x.Code = slices.Insert(x.Code, at, api.Instr{Op: []int{code.Step, code.Tick, code.Drop, code.Stop, code.Ret, code.Add, code.Spawn, code.Die}[r.Intn(8)]})
	case 5:
		if i.A != 0 {
			x.Code[at].A += int64(r.Intn(5) - 2)
		} else {
			x.Code[at].Op += r.Intn(5) - 2
		}
	case 6:
		other := r.Intn(len(x.Code))
		x.Code[at], x.Code[other] = x.Code[other], x.Code[at]
	case 7:
		x.Code = x.Code[:at]
	case 8:
		for n := range x.Code { // the next step is none
			k := (at + n) % len(x.Code)
			if x.Code[k].Op == code.Step {
				x.Code[k] = api.Instr{Op: code.Jump, A: int64(k + 1)}
				return
			}
		}
	}
}
