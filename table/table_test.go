package table_test

import (
	"math"
	"slices"
	"testing"

	"hindcast/api"
	"hindcast/table"
)

func e(index, gen int) api.Entity { return api.Entity{Index: index, Gen: gen} }

// line is a row as it is wanted: whose it is, and its numbers.
type line struct {
	who     api.Entity
	numbers []int64
}

func l(index, gen int, numbers ...int64) line { return line{e(index, gen), numbers} }

// fresh is a table without rows.
func fresh(t *testing.T, columns int) *table.Table {
	t.Helper()
	x, bad := table.New(columns)
	if bad != api.OK || x == nil {
		t.Fatalf("T1: New(%d): %v", columns, bad)
	}
	return x
}

// made is a table of these rows, added one behind the other.
func made(t *testing.T, columns int, rows ...line) *table.Table {
	t.Helper()
	x := fresh(t, columns)
	for place, row := range rows {
		wantAdd(t, x, row, place)
	}
	return x
}

// counted is a table of so many rows; the row i is of the entity i 1, and has 10 i + c in the column c.
func counted(t *testing.T, columns, rows int) *table.Table {
	t.Helper()
	x := fresh(t, columns)
	for i := range rows {
		wantAdd(t, x, counting(columns, i), i)
	}
	return x
}

func counting(columns, i int) line {
	row := l(i, 1)
	for c := range columns {
		row.numbers = append(row.numbers, int64(10*i+c))
	}
	return row
}

func wantAdd(t *testing.T, x *table.Table, row line, want int) {
	t.Helper()
	if place, bad := x.Add(row.who, row.numbers); place != want || bad != api.OK {
		t.Errorf("T2: Add(%v, %v): %d, %v, want %d", row.who, row.numbers, place, bad, want)
	}
}

func wantNoAdd(t *testing.T, x *table.Table, row line, want api.Errno) {
	t.Helper()
	if place, bad := x.Add(row.who, row.numbers); place != 0 || bad != want {
		t.Errorf("T2: Add(%v, %v): %d, %v, want %v", row.who, row.numbers, place, bad, want)
	}
}

// wantMoved removes a row that is not the last one, and wantLast the last one.
func wantMoved(t *testing.T, x *table.Table, row int, want api.Entity) {
	t.Helper()
	if who, moved, bad := x.Remove(row); who != want || !moved || bad != api.OK {
		t.Errorf("T2: Remove(%d): %v, %v, %v, want %v", row, who, moved, bad, want)
	}
}

func wantLast(t *testing.T, x *table.Table, row int) {
	t.Helper()
	if who, moved, bad := x.Remove(row); who != (api.Entity{}) || moved || bad != api.OK {
		t.Errorf("T2: Remove(%d), the last one: %v, %v, %v", row, who, moved, bad)
	}
}

func wantSet(t *testing.T, x *table.Table, row, column int, n int64) {
	t.Helper()
	if bad := x.Set(row, column, n); bad != api.OK {
		t.Errorf("T3: Set(%d, %d, %d): %v", row, column, n, bad)
	}
}

// wantTable holds a table against all its rows, as each call that asks tells them.
func wantTable(t *testing.T, x *table.Table, columns int, want ...line) {
	t.Helper()
	if x.Len() != len(want) {
		t.Errorf("T4: Len: %d, want %d", x.Len(), len(want))
	}
	for place, row := range want {
		who, numbers, bad := x.Row(place)
		if who != row.who || !slices.Equal(numbers, row.numbers) || bad != api.OK {
			t.Errorf("T3: Row(%d): %v, %v, %v, want %v, %v", place, who, numbers, bad, row.who, row.numbers)
		}
		if found := x.Find(row.who); found != place {
			t.Errorf("T4: Find(%v): %d, want %d", row.who, found, place)
		}
	}
	for c := range columns {
		var column []int64
		for place, row := range want {
			column = append(column, row.numbers[c])
			if n, bad := x.Get(place, c); n != row.numbers[c] || bad != api.OK {
				t.Errorf("T3: Get(%d, %d): %d, %v, want %d", place, c, n, bad, row.numbers[c])
			}
		}
		if got, bad := x.Column(c); !slices.Equal(got, column) || bad != api.OK {
			t.Errorf("T4: Column(%d): %v, %v, want %v", c, got, bad, column)
		}
	}
	wantOutside(t, x, len(want), columns)
}

// around are numbers next to those from 0 to n less 1, and far from them.
func around(n int) []int {
	return []int{-1, -2, math.MinInt, math.MinInt32, n, n + 1, math.MaxInt32, math.MaxInt}
}

// wantOutside asks for rows and columns that are not there: P2, an error comes alone, and the row's goes ahead.
func wantOutside(t *testing.T, x *table.Table, rows, columns int) {
	t.Helper()
	for _, row := range around(rows) {
		for _, column := range append(around(columns), 0, columns-1) {
			wantNowhere(t, x, row, column, api.ErrRow)
		}
		if who, numbers, bad := x.Row(row); who != (api.Entity{}) || numbers != nil || bad != api.ErrRow {
			t.Errorf("T3: Row(%d) of %d: %v, %v, %v", row, rows, who, numbers, bad)
		}
		if who, moved, bad := x.Remove(row); who != (api.Entity{}) || moved || bad != api.ErrRow {
			t.Errorf("T2: Remove(%d) of %d: %v, %v, %v", row, rows, who, moved, bad)
		}
	}
	for _, column := range around(columns) {
		for row := range rows {
			wantNowhere(t, x, row, column, api.ErrField)
		}
		if numbers, bad := x.Column(column); numbers != nil || bad != api.ErrField {
			t.Errorf("T4: Column(%d) of %d: %v, %v", column, columns, numbers, bad)
		}
	}
	if x.Len() != rows {
		t.Errorf("P2: what was refused has left %d rows of %d", x.Len(), rows)
	}
}

func wantNowhere(t *testing.T, x *table.Table, row, column int, want api.Errno) {
	t.Helper()
	if n, bad := x.Get(row, column); n != 0 || bad != want {
		t.Errorf("T3: Get(%d, %d): %d, %v, want %v", row, column, n, bad, want)
	}
	if bad := x.Set(row, column, -99); bad != want {
		t.Errorf("T3: Set(%d, %d): %v, want %v", row, column, bad, want)
	}
}

func wantNone(t *testing.T, x *table.Table, nobody ...api.Entity) {
	t.Helper()
	for _, who := range nobody {
		if place := x.Find(who); place != -1 {
			t.Errorf("T4: Find(%v), which has no row: %d", who, place)
		}
	}
}

func TestNewBounds(t *testing.T) {
	for _, columns := range []int{0, 1, 2, 47, 48, api.MaxKinds * api.MaxFields} {
		x := fresh(t, columns)
		wantTable(t, x, columns)
		wantNone(t, x, api.Entity{}, e(0, 1), e(-1, -1))
		wantNoAdd(t, x, line{e(1, 1), make([]int64, columns+1)}, api.ErrField)
		wantAdd(t, x, line{e(1, 1), make([]int64, columns)}, 0)
	}
	for _, columns := range []int{-1, -2, math.MinInt, 49, 50, 1 << 40, math.MaxInt} {
		if x, bad := table.New(columns); x != nil || bad != api.ErrArg {
			t.Errorf("T1: New(%d): %v, %v", columns, x != nil, bad)
		}
	}
}

// TestExamples: those of the chapter.
func TestExamples(t *testing.T) {
	x := fresh(t, 2)
	wantAdd(t, x, l(7, 1, 10, 11), 0)
	wantAdd(t, x, l(8, 1, 20, 21), 1)
	wantAdd(t, x, l(9, 3, 30, 31), 2)
	wantMoved(t, x, 0, e(9, 3))
	if place := x.Find(e(9, 3)); place != 0 {
		t.Errorf("T4: Find: %d", place)
	}
	if numbers, bad := x.Column(1); !slices.Equal(numbers, []int64{31, 21}) || bad != api.OK {
		t.Errorf("T4: Column(1): %v, %v", numbers, bad)
	}
	wantLast(t, x, 1)
	wantNoAdd(t, x, l(9, 3, 1, 2), api.ErrHas)
	wantNoAdd(t, x, l(1, 1, 5), api.ErrField)
	wantNowhere(t, x, 5, 9, api.ErrRow)
	wantNowhere(t, x, 0, 2, api.ErrField)
	wantTable(t, x, 2, l(9, 3, 30, 31))
}

// TestNoColumns: T2 to T4, rows may have nothing but their entities.
func TestNoColumns(t *testing.T) {
	x := made(t, 0, l(3, 1), l(1, 1), l(2, 1))
	wantNoAdd(t, x, l(4, 1, 0), api.ErrField)
	wantNoAdd(t, x, l(1, 1, 0), api.ErrField)
	wantNoAdd(t, x, l(1, 1), api.ErrHas)
	wantTable(t, x, 0, l(3, 1), l(1, 1), l(2, 1))
	wantMoved(t, x, 0, e(2, 1))
	wantTable(t, x, 0, l(2, 1), l(1, 1))
	wantTable(t, x.Clone(), 0, l(2, 1), l(1, 1))
	wantLast(t, x, 1)
	wantLast(t, x, 0)
	wantTable(t, x, 0)
}

// TestMostOfAll: the most columns, and the most rows of them, filled and emptied from either end.
func TestMostOfAll(t *testing.T) {
	const columns, rows = api.MaxKinds * api.MaxFields, api.MaxEntities
	var all []line
	for i := range rows {
		all = append(all, counting(columns, i))
	}
	x := made(t, columns, all...)
	wantTable(t, x, columns, all...)
	wantNoAdd(t, x, counting(columns, rows), api.ErrFull)
	wantNoAdd(t, x, counting(columns, rows), api.ErrFull)
	wantTable(t, x, columns, all...)
	for row := rows - 1; row > 0; row-- {
		wantMoved(t, x, 0, e(row, 1))
	}
	wantTable(t, x, columns, all[1])
	wantLast(t, x, 0)
	wantTable(t, x, columns)
	for place, row := range all {
		wantAdd(t, x, row, place)
	}
	wantNoAdd(t, x, counting(columns, rows), api.ErrFull)
	wantTable(t, x, columns, all...)
}

// TestFull: T2, of MaxEntities rows; what is removed makes room for one.
func TestFull(t *testing.T) {
	x := counted(t, 1, api.MaxEntities-1)
	wantAdd(t, x, l(199, 1, 7), 199)
	wantNoAdd(t, x, l(200, 1, 7), api.ErrFull)
	wantMoved(t, x, 5, e(199, 1))
	wantNone(t, x, e(5, 1), e(200, 1))
	wantAdd(t, x, l(200, 1, 8), 199)
	wantNoAdd(t, x, l(5, 1, 9), api.ErrFull)
	wantLast(t, x, 199)
	wantAdd(t, x, l(5, 1, 9), 199)
	wantNoAdd(t, x, l(200, 1, 8), api.ErrFull)
	if place := x.Find(e(199, 1)); place != 5 {
		t.Errorf("T4: Find of one that came to the place 5: %d", place)
	}
}

// TestAddRefused: T2 and P2, which error goes ahead, and that nothing is changed by it.
func TestAddRefused(t *testing.T) {
	x := made(t, 2, l(1, 1, 5, 6), l(2, 1, 7, 8))
	for _, c := range []struct {
		row  line
		want api.Errno
	}{
		{l(3, 1), api.ErrField},
		{l(3, 1, 1), api.ErrField},
		{l(3, 1, 1, 2, 3), api.ErrField},
		{line{e(3, 1), make([]int64, 1<<20)}, api.ErrField},
		{l(1, 1), api.ErrField},
		{l(1, 1, 1), api.ErrField},
		{l(2, 1, 1, 2, 3), api.ErrField},
		{l(1, 1, 1, 2), api.ErrHas},
		{l(1, 1, 5, 6), api.ErrHas},
		{l(2, 1, 1, 2), api.ErrHas},
	} {
		wantNoAdd(t, x, c.row, c.want)
		wantTable(t, x, 2, l(1, 1, 5, 6), l(2, 1, 7, 8))
		wantNone(t, x, e(3, 1))
	}
	wantAdd(t, x, l(3, 1, 9, 9), 2)
}

// TestAddRefusedWhenFull: T2, ErrField goes ahead of ErrHas, and ErrHas ahead of ErrFull.
func TestAddRefusedWhenFull(t *testing.T) {
	x := counted(t, 1, api.MaxEntities)
	wantNoAdd(t, x, l(5, 1, 1, 2), api.ErrField)
	wantNoAdd(t, x, l(500, 1), api.ErrField)
	wantNoAdd(t, x, l(5, 1, 1), api.ErrHas)
	wantNoAdd(t, x, l(199, 1, 1), api.ErrHas)
	wantNoAdd(t, x, l(500, 1, 1), api.ErrFull)
	wantNone(t, x, e(500, 1))
	if n, bad := x.Get(5, 0); n != 50 || bad != api.OK {
		t.Errorf("P2: what was refused has changed something: %d, %v", n, bad)
	}
}

// TestAnyEntity: a row may be of any entity, and the index and the generation both tell whose it is.
func TestAnyEntity(t *testing.T) {
	rows := []line{
		l(0, 0, 1), l(0, 1, 2), l(1, 0, 3), l(1, 1, 4), l(-1, 0, 5), l(0, -1, 6), l(-1, -1, 7),
		l(math.MaxInt, math.MinInt, 8), l(math.MinInt, math.MaxInt, 9), l(math.MaxInt, math.MaxInt, 10),
		l(math.MinInt, math.MinInt, 11), l(api.MaxEntities, api.MaxGen+1, 12),
	}
	x := made(t, 1, rows...)
	wantTable(t, x, 1, rows...)
	for _, row := range rows {
		wantNoAdd(t, x, row, api.ErrHas)
	}
	wantNone(t, x, e(2, 0), e(0, 2), e(1, -1), e(math.MinInt, 0), e(api.MaxEntities, api.MaxGen))
	wantMoved(t, x, 0, e(api.MaxEntities, api.MaxGen+1))
	wantNone(t, x, e(0, 0))
	wantAdd(t, x, l(0, 0, 13), 11)
	wantLast(t, x, 11)
	wantNone(t, x, e(0, 0))
}

// TestEmptyEntityMoves: T2, the empty entity may be the one that moved: then it comes with true.
func TestEmptyEntityMoves(t *testing.T) {
	x := made(t, 1, l(1, 1, 5), l(0, 0, 6))
	wantMoved(t, x, 0, api.Entity{})
	wantTable(t, x, 1, l(0, 0, 6))
	wantLast(t, x, 0)
	wantTable(t, x, 1)
}

// TestRemove: T2, from the front, the middle and the end.
func TestRemove(t *testing.T) {
	x := made(t, 2, l(1, 1, 10, 11), l(2, 1, 20, 21), l(3, 1, 30, 31), l(4, 1, 40, 41), l(5, 1, 50, 51))
	wantMoved(t, x, 1, e(5, 1))
	wantNone(t, x, e(2, 1))
	wantTable(t, x, 2, l(1, 1, 10, 11), l(5, 1, 50, 51), l(3, 1, 30, 31), l(4, 1, 40, 41))
	wantLast(t, x, 3)
	wantNone(t, x, e(2, 1), e(4, 1))
	wantTable(t, x, 2, l(1, 1, 10, 11), l(5, 1, 50, 51), l(3, 1, 30, 31))
	wantMoved(t, x, 0, e(3, 1))
	wantTable(t, x, 2, l(3, 1, 30, 31), l(5, 1, 50, 51))
	wantMoved(t, x, 0, e(5, 1))
	wantTable(t, x, 2, l(5, 1, 50, 51))
	wantLast(t, x, 0)
	wantNone(t, x, e(1, 1), e(2, 1), e(3, 1), e(4, 1), e(5, 1))
	wantTable(t, x, 2)
}

// TestLastOnes: removing from the last row on leaves the places of all others.
func TestLastOnes(t *testing.T) {
	x := counted(t, 3, 20)
	for row := 19; row >= 0; row-- {
		wantLast(t, x, row)
		var want []line
		for i := range row {
			want = append(want, counting(3, i))
		}
		wantTable(t, x, 3, want...)
	}
}

// TestAddAgain: T2, an entity may be added again behind its removal, and has its new numbers then.
func TestAddAgain(t *testing.T) {
	x := made(t, 2, l(1, 1, 10, 11), l(2, 1, 20, 21), l(3, 1, 30, 31))
	wantMoved(t, x, 0, e(3, 1))
	wantAdd(t, x, l(1, 1, 12, 13), 2)
	wantNoAdd(t, x, l(1, 1, 14, 15), api.ErrHas)
	wantTable(t, x, 2, l(3, 1, 30, 31), l(2, 1, 20, 21), l(1, 1, 12, 13))
	wantLast(t, x, 2)
	wantAdd(t, x, l(1, 1, 16, 17), 2)
	wantTable(t, x, 2, l(3, 1, 30, 31), l(2, 1, 20, 21), l(1, 1, 16, 17))
	wantLast(t, x, 2)
	wantAdd(t, x, l(1, 2, 18, 19), 2)
	wantNone(t, x, e(1, 1))
	wantTable(t, x, 2, l(3, 1, 30, 31), l(2, 1, 20, 21), l(1, 2, 18, 19))
}

// TestSet: T3, any number, in that row and that column alone; it goes with its row.
func TestSet(t *testing.T) {
	x := made(t, 2, l(1, 1, 10, 11), l(2, 1, 20, 21), l(3, 1, 30, 31))
	wantSet(t, x, 0, 1, math.MinInt64)
	wantSet(t, x, 2, 0, math.MaxInt64)
	wantSet(t, x, 1, 0, -1)
	wantSet(t, x, 1, 0, 0)
	wantTable(t, x, 2, l(1, 1, 10, math.MinInt64), l(2, 1, 0, 21), l(3, 1, math.MaxInt64, 31))
	wantMoved(t, x, 0, e(3, 1))
	wantTable(t, x, 2, l(3, 1, math.MaxInt64, 31), l(2, 1, 0, 21))
	wantSet(t, x, 0, 0, 5)
	wantAdd(t, x, l(1, 1, 6, 7), 2)
	wantTable(t, x, 2, l(3, 1, 5, 31), l(2, 1, 0, 21), l(1, 1, 6, 7))
}

// TestClone: T5, a clone has the same rows at the same places, and neither one learns of the other one.
func TestClone(t *testing.T) {
	rows := []line{l(1, 1, 10, 11), l(2, 1, 20, 21), l(3, 1, 30, 31)}
	x := made(t, 2, rows...)
	c := x.Clone()
	wantTable(t, c, 2, rows...)
	wantSet(t, c, 0, 1, 99)
	wantMoved(t, c, 1, e(3, 1))
	wantAdd(t, c, l(4, 1, 40, 41), 2)
	wantTable(t, x, 2, rows...)
	wantNone(t, x, e(4, 1))
	then := []line{l(1, 1, 10, 99), l(3, 1, 30, 31), l(4, 1, 40, 41)}
	wantTable(t, c, 2, then...)
	wantNone(t, c, e(2, 1))
	wantMoved(t, x, 0, e(3, 1))
	wantSet(t, x, 0, 0, 77)
	wantAdd(t, x, l(5, 1, 50, 51), 2)
	wantAdd(t, x, l(6, 1, 60, 61), 3)
	wantTable(t, c, 2, then...)
	wantNone(t, c, e(5, 1), e(6, 1))
	wantTable(t, x, 2, l(3, 1, 77, 31), l(2, 1, 20, 21), l(5, 1, 50, 51), l(6, 1, 60, 61))
}

// TestCloneOfNothing: T5, of a table without rows, which has as many columns.
func TestCloneOfNothing(t *testing.T) {
	for _, columns := range []int{0, 1, 48} {
		x := fresh(t, columns)
		c := x.Clone()
		wantTable(t, c, columns)
		wantNoAdd(t, c, line{e(1, 1), make([]int64, columns+1)}, api.ErrField)
		wantAdd(t, c, counting(columns, 1), 0)
		wantTable(t, x, columns)
		wantNone(t, x, e(1, 1))
		wantAdd(t, x, counting(columns, 2), 0)
		wantTable(t, c, columns, counting(columns, 1))
	}
}

// TestCloneWhenFull: T5, a clone has as much room as the one it was made of.
func TestCloneWhenFull(t *testing.T) {
	x := counted(t, 1, api.MaxEntities)
	c := x.Clone()
	wantNoAdd(t, c, l(500, 1, 5), api.ErrFull)
	wantMoved(t, c, 0, e(199, 1))
	wantNoAdd(t, x, l(500, 1, 5), api.ErrFull)
	wantAdd(t, c, l(500, 1, 5), 199)
	wantNoAdd(t, c, l(0, 1, 5), api.ErrFull)
	wantNoAdd(t, x, l(0, 1, 5), api.ErrHas)
}
