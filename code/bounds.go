package code

import "hindcast/api"

// mayBeWritten tells whether a program has bytes.
func mayBeWritten(p api.Program) bool {
	if len(p.Systems) > api.MaxSystems || len(p.Funcs) > api.MaxFuncs {
		return false
	}
	all := 0
	for _, s := range p.Systems {
		if !areSets(s) || !isRoutine(s.Run) {
			return false
		}
		all += len(s.Run.Code)
	}
	for _, f := range p.Funcs {
		if !isRoutine(f) {
			return false
		}
		all += len(f.Code)
	}
	return all <= api.MaxCode
}

// mayBeListed tells whether a routine has lines.
func mayBeListed(r api.Routine) bool {
	if !isRoutine(r) {
		return false
	}
	for i := range len(r.Name) {
		if r.Name[i] < 33 || r.Name[i] > 126 {
			return false
		}
	}
	return true
}

// areSets tells whether each set of a system is one.
func areSets(s api.System) bool {
	for _, set := range sets(s) {
		last := 0
		for _, kind := range set {
			if kind <= last || kind > api.MaxKinds {
				return false
			}
			last = kind
		}
	}
	return true
}

// sets gives a system's sets of kinds in the order in which they are written.
func sets(s api.System) [4][]int { return [4][]int{s.With, s.Without, s.Reads, s.Writes} }

// isRoutine tells whether a routine may be written, as far as that hangs on it alone.
func isRoutine(r api.Routine) bool {
	isNamed := r.Name != "" && len(r.Name) <= api.MaxName
	hasParams := r.Params >= 0 && r.Params <= api.MaxParams
	hasLocals := r.Locals >= r.Params && r.Locals <= api.MaxLocals
	if !isNamed || !hasParams || !hasLocals || len(r.Code) > api.MaxCode {
		return false
	}
	for _, i := range r.Code {
		if !isInstr(i) {
			return false
		}
	}
	return true
}

func isInstr(i api.Instr) bool { return isOp(i.Op) && (i.A == 0 || rowOf(i.Op).numbered) }
