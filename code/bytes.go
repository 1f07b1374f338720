package code

import (
	"hindcast/api"
	"hindcast/pack"
)

// Encode writes a program (O2).
func Encode(p api.Program) ([]byte, api.Errno) {
	if !mayBeWritten(p) {
		return nil, api.ErrCode
	}
	b := pack.Put(nil, uint64(len(p.Systems)))
	for _, s := range p.Systems {
		for _, set := range sets(s) {
			b = append(b, setBytes(set)...)
		}
		b = append(b, routineBytes(s.Run)...)
	}
	b = append(b, pack.Put(nil, uint64(len(p.Funcs)))...)
	for _, f := range p.Funcs {
		b = append(b, routineBytes(f)...)
	}
	return b, api.OK
}

// Decode reads one; an error is an *api.Fault (O2).
func Decode(b []byte) (api.Program, error) {
	r := &reader{b: b, left: api.MaxCode}
	p := r.program()
	if r.wrong || r.at < len(b) {
		return api.Program{}, &api.Fault{At: r.at, Err: api.ErrCode}
	}
	return p, nil
}

func setBytes(set []int) []byte {
	b := pack.Put(nil, uint64(len(set)))
	for _, kind := range set {
		b = pack.Put(b, uint64(kind))
	}
	return b
}

func routineBytes(r api.Routine) []byte {
	b := pack.PutText(nil, r.Name)
	b = pack.Put(b, uint64(r.Params))
	b = pack.Put(b, uint64(r.Locals))
	b = pack.Put(b, uint64(len(r.Code)))
	for _, i := range r.Code {
		b = append(b, instrBytes(i)...)
	}
	return b
}

// instrBytes gives bytes of their own, as each Put copies all that stands ahead.
func instrBytes(i api.Instr) []byte {
	b := pack.Put(nil, uint64(i.Op))
	if rowOf(i.Op).numbered {
		b = pack.PutInt(b, i.A)
	}
	return b
}

// reader reads a program from the front of bytes, up to the first thing that is wrong: it stays there, and what it reads means nothing any more.
type reader struct {
	b     []byte
	at    int
	left  int // how many instructions there may still be
	wrong bool
}

func (r *reader) program() api.Program {
	var p api.Program
	for range r.number(0, api.MaxSystems) {
		p.Systems = append(p.Systems, r.system())
	}
	for range r.number(0, api.MaxFuncs) {
		p.Funcs = append(p.Funcs, r.routine())
	}
	return p
}

func (r *reader) system() api.System {
	var s api.System
	s.With = r.set()
	s.Without = r.set()
	s.Reads = r.set()
	s.Writes = r.set()
	s.Run = r.routine()
	return s
}

func (r *reader) set() []int {
	var set []int
	last := 0
	for range r.number(0, api.MaxKinds) {
		last = r.number(last+1, api.MaxKinds)
		set = append(set, last)
	}
	return set
}

func (r *reader) routine() api.Routine {
	var x api.Routine
	x.Name = r.name()
	x.Params = r.number(0, api.MaxParams)
	x.Locals = r.number(x.Params, api.MaxLocals)
	count := r.number(0, r.left)
	r.left -= count
	for range count {
		x.Code = append(x.Code, r.instr())
	}
	return x
}

func (r *reader) instr() api.Instr {
	op := r.number(Push, Drop)
	if !rowOf(op).numbered {
		return api.Instr{Op: op}
	}
	return api.Instr{Op: op, A: r.signed()}
}

// number reads one that must be from least to most.
func (r *reader) number(least, most int) int {
	n, size := pack.Get(r.b[r.at:])
	// Compared as uint64: a number that no int holds must not wrap.
	if !r.pass(size, n >= uint64(least) && n <= uint64(most)) {
		return 0
	}
	return int(n)
}

// signed reads any number with a sign.
func (r *reader) signed() int64 {
	n, size := pack.GetInt(r.b[r.at:])
	if !r.pass(size, true) {
		return 0
	}
	return n
}

func (r *reader) name() string {
	// No further than a name may go (its length has one byte): a longer text shows as one that is cut short, and is not copied.
	end := min(r.at+1+api.MaxName, len(r.b))
	name, size := pack.GetText(r.b[r.at:end])
	if !r.pass(size, name != "") {
		return ""
	}
	return name
}

// pass goes past what pack has read, if nothing has been wrong, and this is not; it tells whether that is so.
func (r *reader) pass(size int, right bool) bool {
	r.wrong = r.wrong || size == 0 || !right
	if !r.wrong {
		r.at += size
	}
	return !r.wrong
}
