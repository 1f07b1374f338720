package code_test

import (
	"math"
	"math/rand"
	"slices"
	"strings"
	"testing"

	"hindcast/api"
	"hindcast/code"
)

// growNumber gives numbers of all sizes.
func growNumber(r *rand.Rand) int64 { return int64(r.Uint64()) >> r.Intn(64) }

func growInstr(r *rand.Rand) api.Instr {
	op := 1 + r.Intn(39)
	if !lines[op].numbered {
		return in(op)
	}
	return in(op, growNumber(r))
}

func growRoutine(r *rand.Rand, most int, anyByte bool) api.Routine {
	name := make([]byte, 1+r.Intn(16))
	for i := range name {
		name[i] = byte(33 + r.Intn(94))
		if anyByte {
			name[i] = byte(r.Intn(256))
		}
	}
	x := api.Routine{Name: string(name), Params: r.Intn(5)}
	x.Locals = x.Params + r.Intn(33-x.Params)
	for range r.Intn(most + 1) {
		x.Code = append(x.Code, growInstr(r))
	}
	return x
}

func growSet(r *rand.Rand) []int {
	var set []int
	odds := r.Intn(5)
	for kind := 1; kind <= 12; kind++ {
		if r.Intn(4) < odds {
			set = append(set, kind)
		}
	}
	return set
}

// growProgram grows one that may be written.
func growProgram(r *rand.Rand) api.Program {
	var p api.Program
	most := []int{0, 3, 20, 62}[r.Intn(4)]
	for range r.Intn(17) >> r.Intn(5) {
		p.Systems = append(p.Systems, api.System{With: growSet(r), Without: growSet(r), Reads: growSet(r), Writes: growSet(r), Run: growRoutine(r, most, true)})
	}
	for range r.Intn(17) >> r.Intn(5) {
		p.Funcs = append(p.Funcs, growRoutine(r, most, true))
	}
	return p
}

// spoil changes one thing of a program, which may be one still.
func spoil(r *rand.Rand, p *api.Program) {
	var all []*api.Routine
	for i := range p.Systems {
		all = append(all, &p.Systems[i].Run)
	}
	for i := range p.Funcs {
		all = append(all, &p.Funcs[i])
	}
	if len(all) == 0 {
		p.Funcs = make([]api.Routine, 1)
		return
	}
	x := all[r.Intn(len(all))]
	switch r.Intn(8) {
	case 0:
		x.Name = strings.Repeat(x.Name, r.Intn(4))
	case 1:
		x.Params += r.Intn(7) - 3
	case 2:
		x.Locals += r.Intn(41) - 20
	case 3:
		x.Code = append(x.Code, in(r.Intn(43)-2, int64(r.Intn(3)-1)))
	case 4:
		x.Code = slices.Repeat(x.Code, 1+r.Intn(100))
	case 5:
		p.Funcs = slices.Repeat(p.Funcs, 1+r.Intn(4))
	case 6:
		p.Systems = slices.Repeat(p.Systems, 1+r.Intn(4))
	case 7:
		if len(p.Systems) > 0 {
			s := &p.Systems[r.Intn(len(p.Systems))]
			set := []*[]int{&s.With, &s.Without, &s.Reads, &s.Writes}[r.Intn(4)]
			*set = slices.Insert(slices.Clone(*set), r.Intn(len(*set)+1), r.Intn(15)-1)
		}
	}
}

// spoilBytes changes some bytes.
func spoilBytes(r *rand.Rand, b []byte) []byte {
	b = slices.Clone(b)
	for range 1 + r.Intn(2) {
		at := r.Intn(len(b) + 1)
		switch r.Intn(4) {
		case 0:
			b = b[:at]
		case 1:
			b = slices.Insert(b, at, byte(r.Intn(256)>>r.Intn(8)))
		case 2:
			b = slices.Delete(b, at, min(at+1, len(b)))
		case 3:
			if at < len(b) {
				b[at] ^= 1 << r.Intn(8)
			}
		}
	}
	return b
}

// TestGrownPrograms: O2, what Encode and Decode say of programs, of some that may not be written, and of bytes near theirs.
func TestGrownPrograms(t *testing.T) {
	written := 0
	for seed := range 3000 {
		r := rand.New(rand.NewSource(int64(seed)))
		p := growProgram(r)
		wantProgram(t, p)
		b := modelBytes(p)
		for range 10 {
			wantBytes(t, spoilBytes(r, b))
		}
		spoil(r, &p)
		if modelWritable(p) {
			written++
		}
		wantWritten(t, "a spoilt program", p)
	}
	if written < 300 || written > 2700 {
		t.Errorf("of 3000 spoilt programs %d may be written", written)
	}
}

// TestGrownRoutines: O3, what List and Read say of routines, of some that may not be listed, and of texts near theirs.
func TestGrownRoutines(t *testing.T) {
	listed := 0
	for seed := range 3000 {
		r := rand.New(rand.NewSource(int64(seed)))
		x := growRoutine(r, 30, r.Intn(20) == 0)
		wantLines(t, x)
		if s := modelList(x); s != "" {
			listed++
			for range 10 {
				wantText(t, string(spoilBytes(r, []byte(s))))
			}
		}
		p := alone(x)
		spoil(r, &p)
		wantLines(t, p.Funcs[0])
	}
	if listed < 2500 {
		t.Errorf("of 3000 routines %d may be listed", listed)
	}
}

// TestPlacesHoldAhead: O2, a place hangs on what stands ahead of it and there alone: bytes that end ahead of it are wrong where they end, or ahead, and other bytes behind it are wrong no sooner.
func TestPlacesHoldAhead(t *testing.T) {
	for seed := range 500 {
		r := rand.New(rand.NewSource(int64(seed)))
		b := spoilBytes(r, modelBytes(growProgram(r)))
		place := func(b []byte) int {
			_, err := code.Decode(b)
			fault, ok := err.(*api.Fault)
			if !ok {
				return -1
			}
			return fault.At
		}
		at := place(b)
		if at < 0 {
			continue
		}
		if ahead := place(b[:at]); ahead != at && ahead != -1 {
			t.Fatalf("O2: Decode of %s is wrong at %d, without what stands there at %d", short(b), at, ahead)
		}
		for n := range at {
			if got := place(b[:n]); got > n {
				t.Fatalf("O2: Decode of %d bytes is wrong at %d", n, got)
			}
		}
		for range 5 {
			other := slices.Clone(b[:at])
			for range r.Intn(20) {
				other = append(other, byte(r.Intn(256)>>r.Intn(8)))
			}
			if got := place(other); got >= 0 && got < at {
				t.Fatalf("O2: Decode of %s is wrong at %d, of %s at %d", short(b), at, short(other), got)
			}
		}
	}
}

// FuzzDecode: O2, P1 at all bytes.
func FuzzDecode(f *testing.F) {
	_, b := small()
	f.Add(b)
	f.Add([]byte{})
	f.Add([]byte{0, 0})
	f.Add([]byte("\x00\x01\x01f\x00\x00\x01\x01\xff\xff\xff\xff\xff\xff\xff\xff\xff\x01"))
	f.Fuzz(func(t *testing.T, b []byte) { wantBytes(t, b) })
}

// FuzzRead: O3, P1 at all texts.
func FuzzRead(f *testing.F) {
	_, s := all()
	f.Add(s)
	f.Add("")
	f.Add("f 0 0\npush -9223372036854775808\n")
	f.Fuzz(func(t *testing.T, s string) { wantText(t, s) })
}

// FuzzRoutine: O1 to O3, P1 at all numbers.
func FuzzRoutine(f *testing.F) {
	f.Add("f", 1, 2, code.Push, int64(-3), 3)
	f.Add("", 0, 0, 0, int64(0), 0)
	f.Add("\xff", 4, 32, code.Call, int64(math.MinInt64), 13)
	f.Fuzz(func(t *testing.T, name string, params, locals, op int, a int64, kind int) {
		r := api.Routine{Name: name, Params: params, Locals: locals, Code: []api.Instr{in(op, a)}}
		wantLines(t, r)
		wantWritten(t, "a fuzzed program", alone(r))
		wantWritten(t, "a fuzzed program", system(api.System{Reads: []int{kind}, Run: r}))
		if code.Name(op) != lines[op].word || code.Number(name) != wordOps[name] {
			t.Errorf("O1: Name(%d), Number(%q)", op, name)
		}
		code.Effect(in(op, a), []api.Routine{r})
	})
}
