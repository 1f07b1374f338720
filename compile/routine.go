package compile

import (
	"hindcast/api"
	"hindcast/code"
	"hindcast/syntax"
)

// routine is the code of a system or function, as far as it is laid down.
type routine struct {
	kinds []api.Kind
	code  []api.Instr
}

func systemCode(system *syntax.Node, kinds []api.Kind) []api.Instr {
	r := &routine{kinds: kinds}
	r.block(blockOf(system))
	r.lay(plain(code.Stop))
	return r.code
}

// functionCode has an answer at its end, for a function whose block comes to no return.
func functionCode(function *syntax.Node, kinds []api.Kind) []api.Instr {
	r := &routine{kinds: kinds}
	r.block(blockOf(function))
	r.lay(with(code.Push, 0), plain(code.Ret))
	return r.code
}

// plain is an instruction that has no number.
func plain(op int) api.Instr { return api.Instr{Op: op} }

// with is an instruction that has one.
func with(op int, a int64) api.Instr { return api.Instr{Op: op, A: a} }

// lay puts instructions behind those that are there.
func (r *routine) lay(list ...api.Instr) { r.code = append(r.code, list...) }

// here is the number of the instruction that comes next.
func (r *routine) here() int64 { return int64(len(r.code)) }

// leap lays down a jump or zero whose end is not known yet, and gives its number, for land.
func (r *routine) leap(op int) int64 {
	at := r.here()
	r.lay(plain(op))
	return at
}

// land lets a leap end at the instruction that comes next.
func (r *routine) land(leap int64) { r.code[leap].A = r.here() }

// ofKind is how an instruction speaks of a kind and one of its fields, or of how many it has.
func ofKind(kind int64, field int64) int64 { return kind*8 + field }
