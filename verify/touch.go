package verify

import (
	"slices"

	"hindcast/api"
	"hindcast/code"
)

// askSets finds the first system that names a kind that there is not.
func (p *program) askSets() error {
	for n, s := range p.Systems {
		for _, kind := range slices.Concat(s.With, s.Without, s.Reads, s.Writes) {
			if kind > len(p.kinds) {
				return fault(p.routines[n].place, api.ErrKind)
			}
		}
	}
	return nil
}

// askTouches finds the first instruction that touches what was not declared, or jumps into a row of parts.
func (p *program) askTouches() error {
	for _, r := range p.routines {
		for at, i := range r.Code {
			if !p.mayTouch(r, at) {
				return fault(r.place+at, api.ErrAccess)
			}
			if isJump(i) && isBehindPart(r.Code, i.A) {
				return fault(r.place+at, api.ErrJump)
			}
		}
	}
	return nil
}

func (p *program) mayTouch(r routine, at int) bool {
	i := r.Code[at]
	switch i.Op {
	case code.Load, code.Store:
		return isBelow(i.A, r.Locals)
	case code.Call:
		return isBelow(i.A, len(p.Funcs))
	case code.Ret:
		return !r.isSystem
	case code.Field, code.Put, code.Emit, code.Part, code.Spawn, code.Give, code.Take, code.Die, code.Has, code.Stop:
		return r.isSystem && p.mayTouchEntity(r, at)
	}
	return true
}

// mayTouchEntity asks of those that only a system may do. An A below 0 needs no asking of its own: its kind is 0 or less, and there is none.
func (p *program) mayTouchEntity(r routine, at int) bool {
	i := r.Code[at]
	kind, count := i.A/8, i.A%8
	switch i.Op {
	case code.Put:
		if !has(r.writes, kind) {
			return false
		}
		fallthrough
	case code.Field:
		return (has(r.reads, kind) || has(r.writes, kind)) && count < p.fields(kind)
	case code.Part:
		if !isInRow(r.Code, at) {
			return false
		}
		fallthrough
	case code.Give:
		return p.isKind(kind) && count == p.fields(kind)
	case code.Take, code.Has:
		return p.isKind(i.A)
	}
	return true
}

// isInRow tells whether a part stands in a row that ends with a spawn, with no more ahead than one entity can have.
func isInRow(list []api.Instr, at int) bool {
	isLast := at+1 == len(list)
	if isLast || list[at+1].Op != code.Part && list[at+1].Op != code.Spawn {
		return false
	}
	first := at
	for first > 0 && list[first-1].Op == code.Part {
		first--
	}
	return at-first < api.MaxKinds
}

// isBehindPart tells whether there is an instruction of this number, right behind a part.
func isBehindPart(list []api.Instr, at int64) bool {
	return at >= 1 && at < int64(len(list)) && list[at-1].Op == code.Part
}

func isJump(i api.Instr) bool { return i.Op == code.Jump || i.Op == code.Zero }

func isBelow(a int64, count int) bool { return a >= 0 && a < int64(count) }

func (p *program) isKind(kind int64) bool { return kind >= 1 && kind <= int64(len(p.kinds)) }

// fields tells how many a kind has that is there.
func (p *program) fields(kind int64) int64 { return int64(len(p.kinds[kind-1].Fields)) }

func has(set []int, kind int64) bool {
	return slices.ContainsFunc(set, func(k int) bool { return int64(k) == kind })
}
