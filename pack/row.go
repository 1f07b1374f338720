package pack

import "hindcast/api"

// The forms of a row.
const (
	plain = iota
	steps
	runs
	forms // how many there are
)

// PutRow adds a row of numbers, in the shortest of three forms (A4).
func PutRow(b []byte, l []int64) []byte {
	if len(l) == 0 {
		return Put(b, 0)
	}
	count := uint64(len(l))
	form, size := shortestForm(l)
	out := appendNumber(withRoom(b, numberSize(count)+1+size), count)
	out = append(out, byte(form))
	if form == runs {
		return appendRuns(out, l)
	}
	for i := range len(l) {
		out = appendNumber(out, fold(entry(l, i, form)))
	}
	return out
}

// GetRow reads a row of so many numbers at most; 0: there is none (A4).
func GetRow(b []byte, most int) ([]int64, int) {
	count, head := Get(b)
	if head == 0 || most < 0 || count > uint64(min(most, api.MaxColumn)) {
		return nil, 0
	}
	if count == 0 {
		return nil, head
	}
	if head == len(b) || b[head] >= forms {
		return nil, 0
	}
	form := int(b[head])
	l, size := readForm(b[head+1:], form, int(count))
	if size == 0 {
		return nil, 0
	}
	if best, _ := shortestForm(l); best != form {
		return nil, 0
	}
	return l, head + 1 + size
}

// shortestForm tells the form that a row is written in, and how many bytes stand behind the form's.
func shortestForm(l []int64) (best int, least int) {
	for form := range forms {
		size := formSize(l, form)
		if form == plain || size < least {
			best, least = form, size
		}
	}
	return best, least
}

func formSize(l []int64, form int) int {
	if form == runs {
		return runsSize(l)
	}
	size := 0
	for i := range len(l) {
		size += numberSize(fold(entry(l, i, form)))
	}
	return size
}

// entry is what the forms plain and steps write for the number at a place.
func entry(l []int64, i int, form int) int64 {
	if form == steps && i > 0 {
		return l[i] - l[i-1]
	}
	return l[i]
}

// endsRun tells whether the number at a place is the last one of its run.
func endsRun(l []int64, i int) bool {
	return i == len(l)-1 || l[i] != l[i+1]
}

func runsSize(l []int64) int {
	size, count, length := 0, uint64(0), uint64(0)
	for i := range len(l) {
		length++
		if endsRun(l, i) {
			size += numberSize(length) + numberSize(fold(l[i]))
			count, length = count+1, 0
		}
	}
	return numberSize(count) + size
}

func appendRuns(b []byte, l []int64) []byte {
	count := uint64(0)
	for i := range len(l) {
		if endsRun(l, i) {
			count++
		}
	}
	b = appendNumber(b, count)
	length := uint64(0)
	for i := range len(l) {
		length++
		if endsRun(l, i) {
			b = appendNumber(b, length)
			b = appendNumber(b, fold(l[i]))
			length = 0
		}
	}
	return b
}

// readForm reads count numbers, 1 or more, in a form; the size is 0 if they do not stand there.
func readForm(b []byte, form int, count int) ([]int64, int) {
	if form == runs {
		return readRuns(b, count)
	}
	l, size := readNumbers(b, count)
	if form == steps {
		for i := range l {
			if i > 0 {
				l[i] += l[i-1]
			}
		}
	}
	return l, size
}

func readNumbers(b []byte, count int) ([]int64, int) {
	// Each number has a byte at least: a count that lies takes no memory.
	if count > len(b) {
		return nil, 0
	}
	l, at := make([]int64, count), 0
	for i := range count {
		n, size := GetInt(b[at:])
		if size == 0 {
			return nil, 0
		}
		l[i] = n
		at += size
	}
	return l, at
}

func readRuns(b []byte, count int) ([]int64, int) {
	many, at := Get(b)
	if at == 0 {
		return nil, 0
	}
	var l []int64
	for range many {
		length, head := Get(b[at:])
		if head == 0 || length == 0 || length > uint64(count-len(l)) {
			return nil, 0
		}
		n, size := GetInt(b[at+head:])
		joins := len(l) > 0 && l[len(l)-1] == n
		if size == 0 || joins {
			return nil, 0
		}
		for range length {
			l = append(l, n)
		}
		at += head + size
	}
	if len(l) != count {
		return nil, 0
	}
	return l, at
}
