package table_test

import (
	"math/rand"
	"slices"
	"testing"

	"hindcast/api"
	"hindcast/table"
)

// model is a table as the chapter's words say it: rows, one behind the other.
type model struct {
	columns int
	rows    []line
}

func (m *model) find(who api.Entity) int {
	return slices.IndexFunc(m.rows, func(row line) bool { return row.who == who })
}

func (m *model) add(row line) (int, api.Errno) {
	if len(row.numbers) != m.columns {
		return 0, api.ErrField
	}
	if m.find(row.who) >= 0 {
		return 0, api.ErrHas
	}
	if len(m.rows) == api.MaxEntities {
		return 0, api.ErrFull
	}
	m.rows = append(m.rows, line{row.who, slices.Clone(row.numbers)})
	return len(m.rows) - 1, api.OK
}

func (m *model) remove(row int) (api.Entity, bool, api.Errno) {
	if row < 0 || row >= len(m.rows) {
		return api.Entity{}, false, api.ErrRow
	}
	last := m.rows[len(m.rows)-1]
	m.rows = m.rows[:len(m.rows)-1]
	if row == len(m.rows) {
		return api.Entity{}, false, api.OK
	}
	m.rows[row] = last
	return last.who, true, api.OK
}

func (m *model) set(row, column int, n int64) api.Errno {
	if row < 0 || row >= len(m.rows) {
		return api.ErrRow
	}
	if column < 0 || column >= m.columns {
		return api.ErrField
	}
	m.rows[row].numbers[column] = n
	return api.OK
}

// addBoth, removeBoth and setBoth make a call of a table and of its model.
func addBoth(t *testing.T, x *table.Table, m *model, row line) {
	t.Helper()
	place, bad := x.Add(row.who, row.numbers)
	if want, wantBad := m.add(row); place != want || bad != wantBad {
		t.Fatalf("T2: Add(%v, %v): %d, %v, want %d, %v", row.who, row.numbers, place, bad, want, wantBad)
	}
	spoil(row.numbers)
}

func removeBoth(t *testing.T, x *table.Table, m *model, row int) {
	t.Helper()
	who, moved, bad := x.Remove(row)
	if want, wantMoved, wantBad := m.remove(row); who != want || moved != wantMoved || bad != wantBad {
		t.Fatalf("T2: Remove(%d): %v, %v, %v, want %v, %v, %v", row, who, moved, bad, want, wantMoved, wantBad)
	}
}

func setBoth(t *testing.T, x *table.Table, m *model, row, column int, n int64) {
	t.Helper()
	bad := x.Set(row, column, n)
	if want := m.set(row, column, n); bad != want {
		t.Fatalf("T3: Set(%d, %d, %d): %v, want %v", row, column, n, bad, want)
	}
}

// same holds a table against its model: all that can be asked without changing it; who was ever there may be there no more.
func same(t *testing.T, x *table.Table, m *model, ever []api.Entity) {
	t.Helper()
	wantTable(t, x, m.columns, m.rows...)
	for _, who := range ever {
		if place := x.Find(who); place != m.find(who) {
			t.Fatalf("T4: Find(%v): %d, want %d", who, place, m.find(who))
		}
	}
	if t.Failed() {
		t.FailNow()
	}
}

// some are the entities of which rows are made; few, so that they come again.
func some(count int) []api.Entity {
	var all []api.Entity
	for i := range count {
		all = append(all, e(i/3-1, i%3-1))
	}
	return all
}

func anyNumbers(r *rand.Rand, count int) []int64 {
	numbers := make([]int64, count)
	for i := range numbers {
		numbers[i] = int64(r.Uint64())
	}
	return numbers
}

// anyCall makes one of the calls that change a table; now and then it is one that is refused.
func anyCall(t *testing.T, r *rand.Rand, x *table.Table, m *model, who []api.Entity) {
	t.Helper()
	switch r.Intn(5) {
	case 0, 1:
		count := m.columns
		if r.Intn(8) == 0 {
			count = r.Intn(m.columns + 2)
		}
		addBoth(t, x, m, line{who[r.Intn(len(who))], anyNumbers(r, count)})
	case 2:
		removeBoth(t, x, m, r.Intn(len(m.rows)+2)-1)
	default:
		setBoth(t, x, m, r.Intn(len(m.rows)+2)-1, r.Intn(m.columns+2)-1, int64(r.Uint64()))
	}
}

// TestAsTheWordsSay: T1 to T5, whatever is called one behind the other.
func TestAsTheWordsSay(t *testing.T) {
	r := rand.New(rand.NewSource(7))
	for range 200 {
		m := &model{columns: r.Intn(5)}
		x := fresh(t, m.columns)
		who := some(1 + r.Intn(20))
		for range 60 {
			anyCall(t, r, x, m, who)
			if r.Intn(8) == 0 {
				x = x.Clone()
			}
			same(t, x, m, who)
		}
	}
}

// TestClonesGoTheirWays: T5, a clone and what it was made of, each by calls of its own.
func TestClonesGoTheirWays(t *testing.T) {
	r := rand.New(rand.NewSource(8))
	for range 100 {
		m := &model{columns: r.Intn(4)}
		x := fresh(t, m.columns)
		who := some(15)
		for range r.Intn(30) {
			anyCall(t, r, x, m, who)
		}
		c, cm := x.Clone(), &model{columns: m.columns}
		for _, row := range m.rows {
			cm.add(row)
		}
		for range 40 {
			if r.Intn(2) == 0 {
				anyCall(t, r, x, m, who)
			} else {
				anyCall(t, r, c, cm, who)
			}
			same(t, x, m, who)
			same(t, c, cm, who)
		}
	}
}

// TestNearlyFull: T2, a table that goes up to MaxEntities rows and down again, rows taken out anywhere.
func TestNearlyFull(t *testing.T) {
	r := rand.New(rand.NewSource(9))
	m := &model{columns: 1}
	x := fresh(t, 1)
	who := some(300)
	for range 3000 {
		if r.Intn(8) > 0 {
			addBoth(t, x, m, line{who[r.Intn(len(who))], anyNumbers(r, 1)})
		} else {
			removeBoth(t, x, m, r.Intn(len(m.rows)+1))
		}
		if x.Len() != len(m.rows) {
			t.Fatalf("T4: Len: %d, want %d", x.Len(), len(m.rows))
		}
	}
	same(t, x, m, who)
}

// FuzzCalls: P1, every call ends and none panics, and all do as the words say; four bytes are a call.
func FuzzCalls(f *testing.F) {
	f.Add(2, []byte{0, 7, 1, 2, 0, 8, 1, 2, 0, 9, 3, 2, 1, 0, 0, 0, 1, 1, 0, 0, 0, 9, 3, 2, 2, 0, 1, 5})
	f.Add(0, []byte{0, 7, 1, 0, 3, 0, 0, 0, 0, 7, 1, 0, 1, 0, 0, 0, 0, 7, 1, 0})
	f.Add(49, []byte{})
	f.Fuzz(func(t *testing.T, columns int, calls []byte) {
		x, bad := table.New(columns)
		if may := columns >= 0 && columns <= 48; may != (bad == api.OK) || may != (x != nil) || !may && bad != api.ErrArg {
			t.Fatalf("T1: New(%d): %v", columns, bad)
		}
		if x == nil {
			return
		}
		m := &model{columns: columns}
		var ever []api.Entity
		for ; len(calls) >= 4; calls = calls[4:] {
			a, b, n := int(int8(calls[1])), int(int8(calls[2])), calls[3]
			switch calls[0] % 4 {
			case 0:
				ever = append(ever, e(a, b))
				addBoth(t, x, m, line{e(a, b), slices.Repeat([]int64{int64(a)}, int(n))})
			case 1:
				removeBoth(t, x, m, a)
			case 2:
				setBoth(t, x, m, a, b, int64(n))
			default:
				x = x.Clone()
			}
		}
		same(t, x, m, ever)
	})
}
