package journal

import (
	"errors"

	"hindcast/api"
	"hindcast/code"
	"hindcast/pack"
)

// reader reads the data of a record from the front, up to the first thing that is wrong: then nothing is left, and what it reads means nothing.
type reader struct {
	rest  []byte
	wrong bool
}

// getAll reads how many things there are, and these.
func getAll[T any](r *reader, get func() T) []T {
	var all []T
	for range r.number(api.MaxRecord) {
		all = append(all, get())
		if r.wrong {
			return nil
		}
	}
	return all
}

// number reads one that is not below 0, and not above most.
func (r *reader) number(most int) int {
	n, size := pack.Get(r.rest)
	// Compared as uint64: a number that no int holds must not wrap.
	if !r.pass(size, n <= uint64(most)) {
		return 0
	}
	return int(n)
}

func (r *reader) signed() int64 {
	n, size := pack.GetInt(r.rest)
	r.pass(size, true)
	return n
}

// int reads a number with a sign that an int holds.
func (r *reader) int() int {
	n, size := pack.GetInt(r.rest)
	r.pass(size, int64(int(n)) == n)
	return int(n)
}

func (r *reader) text() string {
	s, size := pack.GetText(r.rest)
	r.pass(size, true)
	return s
}

func (r *reader) row() []int64 {
	l, size := pack.GetRow(r.rest, api.MaxColumn)
	r.pass(size, true)
	return l
}

// program reads one, of which all must be that is left.
func (r *reader) program() api.Program {
	p, err := code.Decode(r.rest)
	var fault *api.Fault
	r.pass(len(r.rest), !errors.As(err, &fault))
	return p
}

// pass goes past what was read, if it stands there and is right, and tells whether that is so.
func (r *reader) pass(size int, right bool) bool {
	if size == 0 || !right {
		r.rest, r.wrong = nil, true
		return false
	}
	r.rest = r.rest[size:]
	return true
}
