package table_test

import (
	"slices"
	"sync"
	"testing"

	"hindcast/api"
	"hindcast/table"
)

// room is a list within a greater one, and all of that.
func room(list ...int64) (in, around []int64) {
	around = slices.Repeat([]int64{-77}, len(list)+8)
	copy(around[2:], list)
	return around[2 : 2+len(list)], around
}

// spoil writes into all of a list, and into the room behind it.
func spoil(list []int64) {
	list = list[:cap(list)]
	for i := range list {
		list[i] = -99
	}
}

// TestAddWritesIntoNothing: P3, what is handed to Add, and what stands around it, stays as it is, whatever becomes of the table.
func TestAddWritesIntoNothing(t *testing.T) {
	for _, columns := range []int{1, 2, 5} {
		values, around := room(counting(columns, 3).numbers...)
		was := slices.Clone(around)
		x := fresh(t, columns)
		wantAdd(t, x, line{e(1, 1), values}, 0)
		wantAdd(t, x, line{e(2, 1), values}, 1)
		wantSet(t, x, 0, 0, 99)
		wantSet(t, x, 1, columns-1, 98)
		wantNoAdd(t, x, line{e(2, 1), values}, api.ErrHas)
		wantMoved(t, x, 0, e(2, 1))
		wantAdd(t, x, counting(columns, 7), 1)
		wantAdd(t, x, counting(columns, 8), 2)
		if !slices.Equal(around, was) {
			t.Errorf("P3: a table writes into what Add is given: %v", around)
		}
	}
}

// TestAddKeepsNothing: P3, whose list it is may write over it; one list may be handed in for several rows.
func TestAddKeepsNothing(t *testing.T) {
	x := fresh(t, 2)
	values := []int64{10, 11}
	wantAdd(t, x, line{e(1, 1), values}, 0)
	wantAdd(t, x, line{e(2, 1), values}, 1)
	spoil(values)
	wantTable(t, x, 2, l(1, 1, 10, 11), l(2, 1, 10, 11))
	wantSet(t, x, 0, 0, 5)
	wantTable(t, x, 2, l(1, 1, 5, 11), l(2, 1, 10, 11))
}

// TestRowIsNewMemory: P3, what Row answered is the caller's, and no two of them share anything.
func TestRowIsNewMemory(t *testing.T) {
	x := made(t, 2, l(1, 1, 10, 11), l(2, 1, 20, 21))
	_, one, _ := x.Row(0)
	_, two, _ := x.Row(0)
	_ = append(one, -98)
	spoil(one)
	if !slices.Equal(two, []int64{10, 11}) {
		t.Errorf("P3: two answers of Row share memory: %v", two)
	}
	wantTable(t, x, 2, l(1, 1, 10, 11), l(2, 1, 20, 21))
	wantSet(t, x, 0, 0, 5)
	wantMoved(t, x, 0, e(2, 1))
	wantAdd(t, x, l(3, 1, 30, 31), 1)
	if !slices.Equal(two, []int64{10, 11}) {
		t.Errorf("P3: what Row answered has become %v", two)
	}
}

// TestColumnIsNewMemory: P3, as long as the column may be, and whatever room stands behind it in the table.
func TestColumnIsNewMemory(t *testing.T) {
	for rows := range 12 {
		x := counted(t, 1, rows+1)
		wantLast(t, x, rows)
		one, _ := x.Column(0)
		two, _ := x.Column(0)
		was := slices.Clone(two)
		_ = append(one, -98)
		spoil(one)
		if !slices.Equal(two, was) {
			t.Errorf("P3: two answers of Column share memory: %v, want %v", two, was)
		}
		more := append(two, -97)
		wantAdd(t, x, l(99, 1, 990), rows)
		wantSet(t, x, 0, 0, 991)
		if more[rows] != -97 || !slices.Equal(two, was) {
			t.Errorf("P3: what Column answered has become %v, want %v", more, was)
		}
		if n, _ := x.Get(rows, 0); rows > 0 && n != 990 {
			t.Errorf("P3: who appends to a column writes into the table: %d", n)
		}
	}
}

// TestRowHandedInAgain: P3, what came out of a table may go into it again.
func TestRowHandedInAgain(t *testing.T) {
	x := made(t, 2, l(1, 1, 10, 11))
	_, numbers, _ := x.Row(0)
	wantAdd(t, x, line{e(2, 1), numbers}, 1)
	column, _ := x.Column(1)
	wantAdd(t, x, line{e(3, 1), column}, 2)
	wantSet(t, x, 0, 0, 5)
	spoil(numbers)
	spoil(column)
	wantTable(t, x, 2, l(1, 1, 5, 11), l(2, 1, 10, 11), l(3, 1, 11, 11))
}

// TestClonesAreApart: T5 and P4, whatever room the lists of a table had when it was cloned.
func TestClonesAreApart(t *testing.T) {
	for rows := range 12 {
		x := counted(t, 2, rows+2)
		wantLast(t, x, rows+1)
		wantLast(t, x, rows)
		var want []line
		for i := range rows {
			want = append(want, counting(2, i))
		}
		c := x.Clone()
		twice := c.Clone()
		wantAdd(t, x, l(70, 1, 700, 701), rows)
		wantAdd(t, c, l(80, 1, 800, 801), rows)
		wantTable(t, x, 2, append(slices.Clone(want), l(70, 1, 700, 701))...)
		wantTable(t, c, 2, append(slices.Clone(want), l(80, 1, 800, 801))...)
		wantTable(t, twice, 2, want...)
		wantNone(t, x, e(80, 1))
		wantNone(t, c, e(70, 1))
		wantNone(t, twice, e(70, 1), e(80, 1))
	}
}

// TestTablesAreApart: P4, two tables of the same lists have nothing to do with one another.
func TestTablesAreApart(t *testing.T) {
	row := l(1, 1, 10, 11)
	one, two := made(t, 2, row), made(t, 2, row)
	wantSet(t, one, 0, 0, 5)
	wantAdd(t, one, l(2, 1, 20, 21), 1)
	wantTable(t, two, 2, row)
	wantLast(t, two, 0)
	wantTable(t, one, 2, l(1, 1, 5, 11), l(2, 1, 20, 21))
	wantTable(t, two, 2)
}

// TestSideBySide: P4, tables on goroutines of their own answer as they do alone, made of the same lists or of one another.
func TestSideBySide(t *testing.T) {
	rows := []line{l(1, 1, 10, 11), l(2, 1, 20, 21), l(3, 1, 30, 31)}
	whole := made(t, 2, rows...)
	var group sync.WaitGroup
	for range 8 {
		group.Go(func() {
			for range 200 {
				fresh, _ := table.New(2)
				for _, row := range rows {
					fresh.Add(row.who, row.numbers)
				}
				for _, x := range []*table.Table{fresh, whole.Clone()} {
					who, moved, _ := x.Remove(0)
					bad := x.Set(0, 1, 99)
					place, _ := x.Add(rows[0].who, rows[0].numbers)
					column, _ := x.Column(1)
					if who != e(3, 1) || !moved || bad != api.OK || place != 2 || !slices.Equal(column, []int64{99, 21, 11}) {
						t.Errorf("P4: another answer beside other tables: %v, %v, %v, %d, %v", who, moved, bad, place, column)
						return
					}
				}
			}
		})
	}
	group.Wait()
	wantTable(t, whole, 2, rows...)
}
