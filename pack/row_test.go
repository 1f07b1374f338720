package pack_test

import (
	"bytes"
	"encoding/binary"
	"math"
	"math/rand"
	"slices"
	"testing"

	"hindcast/api"
	"hindcast/pack"
)

// writeForm writes a row in one form, whether it is the shortest or not.
func writeForm(l []int64, form int) []byte {
	b := append(binary.AppendUvarint(nil, uint64(len(l))), byte(form))
	switch form {
	case 0:
		for _, n := range l {
			b = binary.AppendVarint(b, n)
		}
	case 1:
		ahead := int64(0)
		for _, n := range l {
			b = binary.AppendVarint(b, n-ahead)
			ahead = n
		}
	case 2:
		many, body := uint64(0), []byte(nil)
		for rest := l; len(rest) > 0; {
			length := 1
			for length < len(rest) && rest[length] == rest[0] {
				length++
			}
			body = binary.AppendVarint(binary.AppendUvarint(body, uint64(length)), rest[0])
			rest = rest[length:]
			many++
		}
		b = append(binary.AppendUvarint(b, many), body...)
	}
	return b
}

// wantRow is what PutRow must write.
func wantRow(l []int64) []byte {
	if len(l) == 0 {
		return []byte{0}
	}
	best := writeForm(l, 0)
	for _, form := range []int{1, 2} {
		if b := writeForm(l, form); len(b) < len(best) {
			best = b
		}
	}
	return best
}

func wantNoRow(t *testing.T, b []byte, most int) {
	t.Helper()
	if l, size := pack.GetRow(b, most); l != nil || size != 0 {
		t.Fatalf("A4: GetRow(%x, %d): %d numbers, size %d, want nil, 0", b, most, len(l), size)
	}
}

func checkRow(t *testing.T, l []int64) {
	t.Helper()
	want := wantRow(l)
	got := pack.PutRow([]byte{7, 8}, l)
	if !bytes.Equal(got, append([]byte{7, 8}, want...)) {
		t.Fatalf("A4: PutRow(07 08, %v) = %x, want %x behind 07 08", l, got, want)
	}
	for _, behind := range []string{"", "\x00", "\x80\x80"} {
		back, size := pack.GetRow([]byte(string(want)+behind), len(l))
		if !slices.Equal(back, l) || size != len(want) {
			t.Fatalf("A4: GetRow(%x, and %x behind) = %v, %d, want %v, %d", want, behind, back, size, l, len(want))
		}
	}
	wantNoRow(t, want, len(l)-1)
	if len(l) == 0 {
		return
	}
	wantNoRow(t, want[:len(want)-1], len(l))
	for form := range 3 {
		if b := writeForm(l, form); !bytes.Equal(b, want) {
			wantNoRow(t, b, len(l))
		}
	}
}

func TestRowExamples(t *testing.T) {
	for _, c := range []struct {
		l    []int64
		want []byte
	}{
		{nil, []byte{0}},
		{[]int64{}, []byte{0}},
		{[]int64{7}, []byte{1, 0, 0x0e}},
		{[]int64{5, 5, 5, 5}, []byte{4, 2, 1, 4, 0x0a}},
		{[]int64{1000, 1001, 1002}, []byte{3, 1, 0xd0, 0x0f, 2, 2}},
		// Three forms with as few bytes, or two of them: the lowest is taken.
		{[]int64{5, 5, 5}, []byte{3, 0, 0x0a, 0x0a, 0x0a}},
		{[]int64{1000, 1000, 1000}, []byte{3, 1, 0xd0, 0x0f, 0, 0}},
		// The difference wraps.
		{[]int64{math.MinInt64, math.MaxInt64}, append(append([]byte{2, 1}, binary.AppendVarint(nil, math.MinInt64)...), 1)},
	} {
		if got := pack.PutRow(nil, c.l); !bytes.Equal(got, c.want) {
			t.Errorf("A4: PutRow(%v) = %x, want %x", c.l, got, c.want)
		}
		checkRow(t, c.l)
	}
}

// TestShortRows goes through all rows of up to five of some numbers.
func TestShortRows(t *testing.T) {
	numbers := []int64{0, -1, 5, 1000, 1001, math.MinInt64, math.MaxInt64}
	rows := [][]int64{nil}
	for range 5 {
		var longer [][]int64
		for _, l := range rows {
			checkRow(t, l)
			for _, n := range numbers {
				longer = append(longer, append(slices.Clone(l), n))
			}
		}
		rows = longer
	}
	for _, l := range rows {
		checkRow(t, l)
	}
}

// randomRow makes rows for which each form may be the shortest.
func randomRow(r *rand.Rand, length int) []int64 {
	l := make([]int64, length)
	wide, near, stays := r.Intn(64), r.Intn(64), r.Intn(4)
	for i := range l {
		switch {
		case i > 0 && r.Intn(4) < stays:
			l[i] = l[i-1]
		case i > 0 && near < wide:
			l[i] = l[i-1] + int64(r.Uint64())>>near
		default:
			l[i] = int64(r.Uint64()) >> wide
		}
	}
	return l
}

func TestRandomRows(t *testing.T) {
	r := rand.New(rand.NewSource(5))
	taken := [3]int{}
	for range 3000 {
		l := randomRow(r, 1+r.Intn(300))
		checkRow(t, l)
		_, head := pack.Get(wantRow(l))
		taken[wantRow(l)[head]]++
	}
	for form, n := range taken {
		if n < 100 {
			t.Errorf("the rows of this test have the form %d only %d times", form, n)
		}
	}
}

func TestWrongRows(t *testing.T) {
	for _, b := range [][]byte{
		{4, 0, 0x0a, 0x0a, 0x0a, 0x0a},             // runs are shorter
		{3, 0, 0xd0, 0x0f, 0xd2, 0x0f, 0xd4, 0x0f}, // steps are shorter
		{3, 1, 0x0a, 0, 0},                         // plain is as short
		{3, 2, 1, 3, 0x0a},                         // plain is as short
		{3, 2, 1, 3, 0xd0, 0x0f},                   // steps are as short
		{1, 1, 0x0e},                               // plain is as short
		{1},                                        // no form
		{1, 0},                                     // no number
		{1, 3, 0x0e},                               // no such form
		{1, 0x80, 0x0e},                            // no such form
		{1, 0xff, 0x0e},                            // no such form
		{1, 0, 0x8e, 0},                            // a number too long
		{0x81, 0, 0, 0x0e},                         // a count too long
		{4, 2},                                     // no runs
		{4, 2, 0},                                  // none, but there must be one
		{4, 2, 1},                                  // a run without a length
		{4, 2, 1, 4},                               // a run without a number
		{4, 2, 1, 3, 0x0a},                         // too few numbers
		{4, 2, 1, 5, 0x0a},                         // too many numbers
		{4, 2, 1, 0x84, 0, 0x0a},                   // a length too long
		{4, 2, 0x81, 0, 4, 0x0a},                   // a number of runs too long
		{4, 2, 2, 4, 0x0a},                         // a run too few
		{4, 2, 2, 4, 0x0a, 0, 0x0c},                // a run of nothing, last
		{4, 2, 2, 0, 0x0c, 4, 0x0a},                // a run of nothing, first
		{12, 2, 2, 6, 0x0a, 6, 0x0a},               // two runs that are one
		{12, 2, 3, 4, 0x0a, 4, 0x0c, 4, 0x0c},      // two runs that are one, behind another
		append([]byte{4, 2, 1}, pack.Put(nil, 1<<63)...),                        // a length without a number
		append(append([]byte{4, 2, 1}, pack.Put(nil, 1<<63)...), 0x0a),          // a length beyond all
		append(append([]byte{4, 2, 1}, pack.Put(nil, math.MaxUint64)...), 0x0a), // a length beyond all
		append(append([]byte{4, 2}, pack.Put(nil, math.MaxUint64)...), 4, 0x0a), // runs beyond all
		append(append([]byte{4, 2}, pack.Put(nil, 1<<63)...), 4, 0x0a, 4, 0x0c), // runs beyond all
	} {
		wantNoRow(t, b, 100)
		wantNoRow(t, b, math.MaxInt)
	}
}

func TestMost(t *testing.T) {
	one := []byte{1, 0, 0x0e}
	for _, most := range []int{1, 2, api.MaxColumn, api.MaxColumn + 1, math.MaxInt} {
		if l, size := pack.GetRow(one, most); !slices.Equal(l, []int64{7}) || size != 3 {
			t.Errorf("A4: GetRow(%x, %d) = %v, %d", one, most, l, size)
		}
	}
	for _, most := range []int{0, -1, math.MinInt} {
		wantNoRow(t, one, most)
	}
	for _, most := range []int{0, 1, math.MaxInt} {
		if l, size := pack.GetRow([]byte{0, 5}, most); l != nil || size != 1 {
			t.Errorf("A4: GetRow(00 05, %d) = %v, %d, want nil, 1", most, l, size)
		}
	}
	for _, most := range []int{-1, math.MinInt} {
		wantNoRow(t, []byte{0}, most)
	}
}

func TestLongRows(t *testing.T) {
	r := rand.New(rand.NewSource(6))
	for _, l := range [][]int64{make([]int64, api.MaxColumn), randomRow(r, api.MaxColumn), randomRow(r, api.MaxColumn)} {
		checkRow(t, l)
		long := append(slices.Clone(l), l[0])
		b := pack.PutRow(nil, long)
		if !bytes.Equal(b, wantRow(long)) {
			t.Errorf("A4: PutRow of %d numbers writes others", len(long))
		}
		wantNoRow(t, b, math.MaxInt)
		wantNoRow(t, b, len(long))
	}
	for _, n := range []uint64{api.MaxColumn + 1, 1 << 32, 1 << 63, math.MaxUint64} {
		for form := range 3 {
			wantNoRow(t, append(pack.Put(nil, n), byte(form), 1, 1, 1), math.MaxInt)
		}
	}
}

// TestAllShortBytes hands all short bytes of some in: what is taken must be what is written.
func TestAllShortBytes(t *testing.T) {
	some := []byte{0, 1, 2, 3, 4, 0x0a, 0x80, 0xff}
	var tryAll func(b []byte, left int)
	tryAll = func(b []byte, left int) {
		checkTaken(t, b)
		if left == 0 {
			return
		}
		for _, x := range some {
			tryAll(append(b, x), left-1)
		}
	}
	tryAll(nil, 6)
}

func checkTaken(t *testing.T, b []byte) {
	t.Helper()
	if n, size := pack.Get(b); size > 0 && !bytes.Equal(pack.Put(nil, n), b[:size]) || size == 0 && n != 0 {
		t.Fatalf("A1: Get(%x) = %d, %d", b, n, size)
	}
	if n, size := pack.GetInt(b); size > 0 && !bytes.Equal(pack.PutInt(nil, n), b[:size]) || size == 0 && n != 0 {
		t.Fatalf("A2: GetInt(%x) = %d, %d", b, n, size)
	}
	if s, size := pack.GetText(b); size > 0 && !bytes.Equal(pack.PutText(nil, s), b[:size]) || size == 0 && s != "" {
		t.Fatalf("A3: GetText(%x) = %q, %d", b, s, size)
	}
	if l, size := pack.GetRow(b, 100); size > 0 && !bytes.Equal(wantRow(l), b[:size]) || size == 0 && l != nil {
		t.Fatalf("A4: GetRow(%x) = %v, %d", b, l, size)
	}
}

// TestSpoiltRows turns single bytes of rows: what is taken must still be what is written.
func TestSpoiltRows(t *testing.T) {
	r := rand.New(rand.NewSource(7))
	for range 30000 {
		b := wantRow(randomRow(r, 1+r.Intn(20)))
		b[r.Intn(len(b))] = byte(r.Intn(256))
		checkTaken(t, b)
	}
}
