package code

import (
	"strconv"
	"strings"

	"hindcast/api"
)

// List writes a routine, a line an instruction (O3).
func List(r api.Routine) string {
	if !mayBeListed(r) {
		return ""
	}
	var s strings.Builder
	s.WriteString(headLine(r) + "\n")
	for _, i := range r.Code {
		s.WriteString(instrLine(i) + "\n")
	}
	return s.String()
}

// Read reads what List wrote; an error is an *api.Fault (O3).
func Read(s string) (api.Routine, error) {
	line, rest, ended := strings.Cut(s, "\n")
	r, right := readHead(line)
	if !ended || !right {
		return api.Routine{}, &api.Fault{At: 0, Err: api.ErrCode}
	}
	for rest != "" {
		at := len(s) - len(rest)
		line, rest, ended = strings.Cut(rest, "\n")
		i, right := readInstr(line)
		if !ended || !right || len(r.Code) == api.MaxCode {
			return api.Routine{}, &api.Fault{At: at, Err: api.ErrCode}
		}
		r.Code = append(r.Code, i)
	}
	return r, nil
}

// headLine gives the first line of a routine, without its end.
func headLine(r api.Routine) string {
	return r.Name + " " + strconv.Itoa(r.Params) + " " + strconv.Itoa(r.Locals)
}

// instrLine gives the line of an instruction, without its end.
func instrLine(i api.Instr) string {
	row := rowOf(i.Op)
	if !row.numbered {
		return row.word
	}
	return row.word + " " + strconv.FormatInt(i.A, 10)
}

// readHead reads a routine without instructions. Only one line is written of it: what is not as it must be shows by that.
func readHead(line string) (r api.Routine, right bool) {
	name, numbers, _ := strings.Cut(line, " ")
	params, locals, _ := strings.Cut(numbers, " ")
	r = api.Routine{Name: name, Params: int(readNumber(params)), Locals: int(readNumber(locals))}
	return r, mayBeListed(r) && headLine(r) == line
}

// readInstr reads an instruction; here too only one line is written of it.
func readInstr(line string) (i api.Instr, right bool) {
	word, number, _ := strings.Cut(line, " ")
	i = api.Instr{Op: Number(word), A: readNumber(number)}
	return i, isInstr(i) && instrLine(i) == line
}

// readNumber gives some number, if the text is none: the line is another one then than that of what was read.
func readNumber(text string) int64 {
	n, _ := strconv.ParseInt(text, 10, 64)
	return n
}
