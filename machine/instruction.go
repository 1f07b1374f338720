package machine

import (
	"hindcast/api"
	"hindcast/code"
)

// instruction is what the machine knows of an op, but for what code.Effect tells of its stack.
type instruction struct {
	where  int
	may    func(r *run, a int64) bool           // whether there is what A names; nil: it names nothing
	isFull func(r *run) bool                    // whether no more may be told; nil: it tells nothing
	work   func(r *run, a int64, taken []int64) // taken: numbers of the stack, the last of them the top
}

// The routines in which an instruction may stand.
const (
	anywhere = iota
	inSystem
	inFunction
)

// instructions gives what is known of each op, at its number.
func instructions() [code.Drop + 1]instruction {
	return [...]instruction{
		code.Push:  {work: func(r *run, a int64, _ []int64) { r.now.put(a) }},
		code.Load:  {may: (*run).hasLocal, work: func(r *run, a int64, _ []int64) { r.now.put(r.now.locals[a]) }},
		code.Store: {may: (*run).hasLocal, work: func(r *run, a int64, x []int64) { r.now.locals[a] = x[0] }},
		code.Field: {where: inSystem, may: (*run).mayRead, work: func(r *run, a int64, _ []int64) { r.now.put(*r.value(a)) }},
		code.Put:   {where: inSystem, may: (*run).mayWrite, work: func(r *run, a int64, x []int64) { *r.value(a) = x[0] }},
		code.Add:   {work: func(r *run, _ int64, x []int64) { r.now.put(x[0] + x[1]) }},
		code.Sub:   {work: func(r *run, _ int64, x []int64) { r.now.put(x[0] - x[1]) }},
		code.Mul:   {work: func(r *run, _ int64, x []int64) { r.now.put(x[0] * x[1]) }},
		code.Div:   {work: func(r *run, _ int64, x []int64) { r.now.put(quotient(x[0], x[1])) }},
		code.Rem:   {work: func(r *run, _ int64, x []int64) { r.now.put(rest(x[0], x[1])) }},
		code.Neg:   {work: func(r *run, _ int64, x []int64) { r.now.put(-x[0]) }},
		code.Eq:    {work: func(r *run, _ int64, x []int64) { r.now.put(truth(x[0] == x[1])) }},
		code.Ne:    {work: func(r *run, _ int64, x []int64) { r.now.put(truth(x[0] != x[1])) }},
		code.Lt:    {work: func(r *run, _ int64, x []int64) { r.now.put(truth(x[0] < x[1])) }},
		code.Le:    {work: func(r *run, _ int64, x []int64) { r.now.put(truth(x[0] <= x[1])) }},
		code.Gt:    {work: func(r *run, _ int64, x []int64) { r.now.put(truth(x[0] > x[1])) }},
		code.Ge:    {work: func(r *run, _ int64, x []int64) { r.now.put(truth(x[0] >= x[1])) }},
		code.Not:   {work: func(r *run, _ int64, x []int64) { r.now.put(truth(x[0] == 0)) }},
		code.Jump:  {work: func(r *run, a int64, _ []int64) { r.now.next = a }},
		code.Zero:  {work: (*run).jumpIfZero},
		code.Call:  {may: (*run).mayCall, work: (*run).call},
		code.Ret:   {where: inFunction, work: (*run).goBack},
		code.Stop:  {where: inSystem, work: func(r *run, _ int64, _ []int64) { r.stopped = true }},
		code.Step:  {work: func(r *run, _ int64, _ []int64) { r.step() }},
		code.Emit:  {where: inSystem, isFull: (*run).hasAllEvents, work: (*run).emit},
		code.Part:  {where: inSystem, may: (*run).mayKeep, work: (*run).keep},
		code.Spawn: {where: inSystem, isFull: (*run).hasAllCommands, work: (*run).spawn},
		code.Give:  {where: inSystem, may: (*run).isKindOfPart, isFull: (*run).hasAllCommands, work: (*run).give},
		code.Take:  {where: inSystem, may: (*run).isKind, isFull: (*run).hasAllCommands, work: (*run).takeAway},
		code.Die:   {where: inSystem, isFull: (*run).hasAllCommands, work: (*run).die},
		code.Rand:  {work: func(r *run, _ int64, x []int64) { r.now.put(r.dice.Below(x[0])) }},
		code.Tick:  {work: func(r *run, _ int64, _ []int64) { r.now.put(int64(r.env.Frame)) }},
		code.Me:    {work: func(r *run, _ int64, _ []int64) { r.now.put(int64(r.env.Row.E.Index)) }},
		code.Input: {work: func(r *run, _ int64, x []int64) { r.now.put(r.input(x[0], x[1])) }},
		code.Has:   {where: inSystem, may: (*run).isKind, work: func(r *run, a int64, _ []int64) { r.now.put(truth(r.parts[a] != nil)) }},
		code.Min:   {work: func(r *run, _ int64, x []int64) { r.now.put(min(x[0], x[1])) }},
		code.Max:   {work: func(r *run, _ int64, x []int64) { r.now.put(max(x[0], x[1])) }},
		code.Abs:   {work: func(r *run, _ int64, x []int64) { r.now.put(max(x[0], -x[0])) }},
		code.Drop:  {work: func(*run, int64, []int64) {}},
	}
}

func (r *run) hasLocal(a int64) bool { return isBelow(a, len(r.now.locals)) }

func (r *run) mayCall(a int64) bool {
	return isBelow(a, len(r.funcs)) && len(r.waiting) < api.MaxCalls
}

func isBelow(a int64, count int) bool { return a >= 0 && a < int64(count) }

func (r *run) jumpIfZero(a int64, taken []int64) {
	if taken[0] == 0 {
		r.now.next = a
	}
}

func (r *run) call(a int64, taken []int64) {
	r.step()
	r.waiting = append(r.waiting, r.now)
	r.now = activate(r.funcs[a], taken)
}

// goBack ends a function: its answer is put where the call was.
func (r *run) goBack(_ int64, taken []int64) {
	last := len(r.waiting) - 1
	r.now = r.waiting[last]
	r.waiting = r.waiting[:last]
	r.now.put(taken[0])
}

func quotient(w, x int64) int64 {
	if x == 0 {
		return 0
	}
	return w / x
}

func rest(w, x int64) int64 {
	if x == 0 {
		return 0
	}
	return w % x
}

func truth(is bool) int64 {
	if is {
		return 1
	}
	return 0
}
