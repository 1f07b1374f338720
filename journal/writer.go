package journal

import (
	"hindcast/api"
	"hindcast/pack"
)

// writer writes the data of a record, as long as they are not too long.
type writer struct {
	bytes   []byte
	tooLong bool // or one of the rows is
}

// putAll writes how many things there are, and these.
func putAll[T any](w *writer, all []T, put func(T)) {
	w.number(len(all))
	for _, x := range all {
		put(x)
	}
}

func (w *writer) number(n int) { w.add(pack.Put(nil, uint64(n))) }

func (w *writer) signed(n int64) { w.add(pack.PutInt(nil, n)) }

func (w *writer) int(n int) { w.signed(int64(n)) }

func (w *writer) text(s string) { w.add(pack.PutText(nil, s)) }

func (w *writer) row(l []int64) {
	w.tooLong = w.tooLong || len(l) > api.MaxColumn
	if !w.tooLong {
		w.add(pack.PutRow(nil, l))
	}
}

// add puts bytes behind the others. They come as bytes of their own, as each Put would copy all that stands ahead.
func (w *writer) add(b []byte) {
	w.tooLong = w.tooLong || len(b) > api.MaxRecord-len(w.bytes)
	if !w.tooLong {
		w.bytes = append(w.bytes, b...)
	}
}
