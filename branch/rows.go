package branch

import "slices"

// rows are things with numbers, no two of them with one, by rising numbers.
type rows[T any] struct {
	numbers []int
	things  []T
}

// add puts a thing behind the others; its number is above theirs.
func (r *rows[T]) add(number int, thing T) {
	r.numbers, r.things = append(r.numbers, number), append(r.things, thing)
}

// find gives the thing with a number, and tells whether there is one.
func (r *rows[T]) find(number int) (T, bool) {
	i, ok := slices.BinarySearch(r.numbers, number)
	if !ok {
		var none T
		return none, false
	}
	return r.things[i], true
}

// drop takes the thing with a number away, if there is one.
func (r *rows[T]) drop(number int) {
	if i, ok := slices.BinarySearch(r.numbers, number); ok {
		r.numbers, r.things = slices.Delete(r.numbers, i, i+1), slices.Delete(r.things, i, i+1)
	}
}
