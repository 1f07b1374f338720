package code_test

import (
	"encoding/binary"
	"fmt"
	"math/big"
	"regexp"
	"strconv"
	"strings"

	"hindcast/api"
)

// chapter is the chapter's table, op by op: the word, whether it has an A, what it takes and puts; what hangs on A is ?.
const chapter = `push A 0 1
load A 0 1
store A 1 0
field A 0 1
put A 1 0
add - 2 1
sub - 2 1
mul - 2 1
div - 2 1
rem - 2 1
neg - 1 1
eq - 2 1
ne - 2 1
lt - 2 1
le - 2 1
gt - 2 1
ge - 2 1
not - 1 1
jump A 0 0
zero A 1 0
call A ? 1
ret - 1 0
stop - 0 0
step - 0 0
emit - 2 0
part A ? 0
spawn - 0 0
give A ? 0
take A 0 0
die - 0 0
rand - 1 1
tick - 0 1
me - 0 1
input - 2 1
has A 0 1
min - 2 1
max - 2 1
abs - 1 1
drop - 1 0`

// line is one of the chapter's table.
type line struct {
	word        string
	numbered    bool
	takes, puts string
}

// lines are those of the chapter's table, each at its op.
var lines = readChapter()

func readChapter() map[int]line {
	all := map[int]line{}
	for i, s := range strings.Split(chapter, "\n") {
		f := strings.Fields(s)
		all[i+1] = line{f[0], f[1] == "A", f[2], f[3]}
	}
	return all
}

// wordOps finds the ops of the chapter's words.
var wordOps = readWords()

func readWords() map[string]int {
	all := map[string]int{}
	for op, l := range lines {
		all[l.word] = op
	}
	return all
}

// modelInstr tells whether an instruction may be.
func modelInstr(i api.Instr) bool {
	l, ok := lines[i.Op]
	return ok && (l.numbered || i.A == 0)
}

// modelRoutine tells whether a routine may be in a program, whatever else stands there.
func modelRoutine(r api.Routine) bool {
	for _, i := range r.Code {
		if !modelInstr(i) {
			return false
		}
	}
	return len(r.Name) >= 1 && len(r.Name) <= 16 && r.Params >= 0 && r.Params <= 4 && r.Locals >= r.Params && r.Locals <= 32
}

// modelWritable tells whether a program may be written.
func modelWritable(p api.Program) bool {
	if len(p.Systems) > 16 || len(p.Funcs) > 16 {
		return false
	}
	count := 0
	for _, s := range p.Systems {
		for _, set := range [][]int{s.With, s.Without, s.Reads, s.Writes} {
			for i, kind := range set {
				if kind < 1 || kind > 12 || i > 0 && kind <= set[i-1] {
					return false
				}
			}
		}
		if !modelRoutine(s.Run) {
			return false
		}
		count += len(s.Run.Code)
	}
	for _, f := range p.Funcs {
		if !modelRoutine(f) {
			return false
		}
		count += len(f.Code)
	}
	return count <= 2000
}

// modelBytes are those of a program that may be written.
func modelBytes(p api.Program) []byte {
	var b []byte
	number := func(n int) { b = binary.AppendUvarint(b, uint64(n)) }
	routine := func(r api.Routine) {
		number(len(r.Name))
		b = append(b, r.Name...)
		number(r.Params)
		number(r.Locals)
		number(len(r.Code))
		for _, i := range r.Code {
			number(i.Op)
			if lines[i.Op].numbered {
				b = binary.AppendVarint(b, i.A)
			}
		}
	}
	number(len(p.Systems))
	for _, s := range p.Systems {
		for _, set := range [][]int{s.With, s.Without, s.Reads, s.Writes} {
			number(len(set))
			for _, kind := range set {
				number(kind)
			}
		}
		routine(s.Run)
	}
	number(len(p.Funcs))
	for _, f := range p.Funcs {
		routine(f)
	}
	return b
}

// cursor goes through bytes, and gives up at a place by a panic with it.
type cursor struct {
	b  []byte
	at int
}

func (c *cursor) number(least, most uint64) uint64 {
	n, size := binary.Uvarint(c.b[c.at:])
	if size <= 0 || size > 1 && c.b[c.at+size-1] == 0 || n < least || n > most {
		panic(c.at)
	}
	c.at += size
	return n
}

// modelPlace tells the place at which bytes are no program's; -1, if they are one's.
func modelPlace(b []byte) (place int) {
	defer func() {
		if what := recover(); what != nil {
			place = what.(int)
		}
	}()
	c, code := &cursor{b: b}, uint64(0)
	routine := func() {
		start := c.at
		size := c.number(1, 16)
		if size > uint64(len(b)-c.at) {
			panic(start)
		}
		c.at += int(size)
		params := c.number(0, 4)
		c.number(params, 32)
		count := c.number(0, 2000-code)
		code += count
		for range count {
			if op := c.number(1, 39); lines[int(op)].numbered {
				c.number(0, 1<<64-1)
			}
		}
	}
	for range c.number(0, 16) {
		for range 4 {
			least := uint64(1)
			for range c.number(0, 12) {
				least = c.number(least, 12) + 1
			}
		}
		routine()
	}
	for range c.number(0, 16) {
		routine()
	}
	if c.at < len(b) {
		panic(c.at)
	}
	return -1
}

// modelList is what List tells of a routine.
func modelList(r api.Routine) string {
	if !modelRoutine(r) || len(r.Code) > 2000 || strings.ContainsFunc(r.Name, func(c rune) bool { return c < 33 || c > 126 }) {
		return ""
	}
	s := fmt.Sprintln(r.Name, r.Params, r.Locals)
	for _, i := range r.Code {
		if lines[i.Op].numbered {
			s += fmt.Sprintln(lines[i.Op].word, i.A)
		} else {
			s += fmt.Sprintln(lines[i.Op].word)
		}
	}
	return s
}

var (
	headForm  = regexp.MustCompile(`^([!-~]{1,16}) ([0-4]) (0|[1-9][0-9]?)$`)
	instrForm = regexp.MustCompile(`^([a-z]+)(?: (0|-?[1-9][0-9]*))?$`)
)

// modelReadPlace tells the place of the first wrong line of a text; -1, if none is.
func modelReadPlace(s string) int {
	at := 0
	for n, text := range strings.SplitAfter(s, "\n") {
		if n > 0 && text == "" { // what stands behind the last line feed
			break
		}
		bare, ended := strings.CutSuffix(text, "\n")
		right := modelHead(bare)
		if n > 0 {
			right = modelLine(bare) && n <= 2000
		}
		if !ended || !right {
			return at
		}
		at += len(text)
	}
	return -1
}

func modelHead(s string) bool {
	m := headForm.FindStringSubmatch(s)
	if m == nil {
		return false
	}
	params, _ := strconv.Atoi(m[2])
	locals, _ := strconv.Atoi(m[3])
	return params <= locals && locals <= 32
}

func modelLine(s string) bool {
	m := instrForm.FindStringSubmatch(s)
	if m == nil || lines[wordOps[m[1]]].word == "" || lines[wordOps[m[1]]].numbered != (m[2] != "") {
		return false
	}
	n, ok := new(big.Int).SetString("0"+m[2], 10)
	if strings.HasPrefix(m[2], "-") {
		n, ok = new(big.Int).SetString(m[2], 10)
	}
	return ok && n.IsInt64()
}
