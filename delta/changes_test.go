package delta_test

import (
	"bytes"
	"errors"
	"slices"
	"testing"

	"hindcast/api"
	"hindcast/delta"
	"hindcast/pack"
)

// TestChanges: E3, of a gone one who it is alone; of a new one all parts; of a changed one what it has now of the touched kinds, and what it has no more.
func TestChanges(t *testing.T) {
	want := map[string][]api.Change{
		"nobody":             nil,
		"nothing":            nil,
		"new":                {{E: e(0, 1), New: true, Parts: list(p(1, 5, -6), p(2, 7), p(3))}},
		"new with nothing":   {{E: e(0, 1), New: true}},
		"gone":               {{E: e(0, 1), Gone: true}},
		"gone with nothing":  {{E: e(0, 1), Gone: true}},
		"a value":            {{E: e(0, 1), Parts: list(p(1, 5, 9))}},
		"a part comes":       {{E: e(0, 1), Parts: list(p(3))}},
		"a part goes":        {{E: e(0, 1), Lost: []int{1}}},
		"all at once":        {{E: e(0, 1), Parts: list(p(2, 8), p(3)), Lost: []int{1}}},
		"one after another":  {{E: e(0, 1), Gone: true}, {E: e(0, 3), New: true, Parts: list(p(2, 7))}},
		"back to one ahead":  {{E: e(0, 1), New: true, Parts: list(p(3))}, {E: e(0, 3), Gone: true}},
		"some of each":       {{E: e(0, 1), Gone: true}, {E: e(1, 1), New: true, Parts: list(p(2, 1))}, {E: e(1, 2), Gone: true}, {E: e(2, 1), Parts: list(p(2, 1))}, {E: e(3, 5), New: true}},
		"the free row alone": nil,
		"worn out":           {{E: e(0, api.MaxGen), Gone: true}},
		"the last number":    {{E: e(198, 1), New: true, Parts: list(p(2, 1))}, {E: e(199, 1), Gone: true}},
	}
	all := pairs(t)
	for what, changes := range want {
		if all[what].a == nil {
			t.Fatalf("the test's own worlds: there are none of %s", what)
		}
		wantChanges(t, three(), all[what].d, changes...)
	}
	lost := isChanged(e(7, 2), list(p(1, 1), p(2, 1, 1), p(5), p(11, 1), p(12, 1, 1)), list(p(2, 1, 2), p(10)))
	wantChanges(t, twelve(), deltaOf(pool(nil), pool(nil), lost), api.Change{E: e(7, 2), Parts: list(p(2, 1, 2), p(10)), Lost: []int{1, 5, 11, 12}})
}

// TestChangesHangOnTheForm: E3, rows may be of any numbers, and of who lives there a delta may tell anything.
func TestChangesHangOnTheForm(t *testing.T) {
	any := slices.Concat(pack.PutRow(nil, gens(-5, 1<<40, 0)), pack.PutRow(nil, gens(3, 3)), pack.PutRow(nil, nil), pack.PutRow(nil, gens(999)))
	d := append(slices.Clone(any), slices.Concat([]byte{3}, isGone(e(0, 1), p(2, 4)).bytes(), isGone(e(0, api.MaxGen)).bytes(), isChanged(e(199, 7), nil, list(p(3))).bytes())...)
	wantChanges(t, three(), d, api.Change{E: e(0, 1), Gone: true}, api.Change{E: e(0, api.MaxGen), Gone: true}, api.Change{E: e(199, 7), Parts: list(p(3))})
	wantChanges(t, two(), append(any, 0))
	long := slices.Repeat(gens(7), api.MaxEntities)
	wantChanges(t, three(), deltaOf(pool(long, long...), pool(long, long...)))
}

// TestChangesKinds: E3, kinds that may not be, ahead of all that is wrong with the bytes.
func TestChangesKinds(t *testing.T) {
	for why, kinds := range wrongKinds() {
		for _, d := range [][]byte{make([]byte, 5), nil, {1, 2, 3}, {0, 0, 0, 0, 0, 0}} {
			wantFault(t, why, kinds, d, 0, api.ErrKinds)
		}
	}
	wantChanges(t, twelve(), make([]byte, 5))
	wantChanges(t, []api.Kind{{Name: "A"}}, make([]byte, 5))
}

// TestFaults: E3, the first place where something may not stand.
func TestFaults(t *testing.T) {
	for _, c := range []struct {
		why, text string
		at        int
	}{
		{"an Index too great", "00 00 00 00 01: c8 01 01 01 00", 5},
		{"an Index far too great", "00 00 00 00 01: ff ff ff ff ff ff ff ff ff 01 01 01 00", 5},
		{"an Index that falls", "00 00 00 00 02: 01 01 01 00, 00 01 01 00", 9},
		{"an Index that falls, a Gen that rises", "00 00 00 00 02: 01 01 01 00, 00 02 01 00", 9},
		{"an Index too great behind another one", "00 00 00 00 02: 01 01 01 00, c8 01 02 01 00", 9},
		{"one entity twice", "00 00 00 00 02: 00 01 01 00, 00 01 01 00", 10},
		{"a Gen that falls", "00 00 00 00 02: 00 05 01 00, 00 04 01 00", 10},
		{"a Gen 0", "00 00 00 00 01: 00 00 01 00", 6},
		{"a Gen 0 of another Index", "00 00 00 00 02: 00 01 01 00, 01 00 01 00", 10},
		{"a Gen 0 of the same Index", "00 00 00 00 02: 00 01 01 00, 00 00 01 00", 10},
		{"a Gen too great", "00 00 00 00 01: 00 c1 84 3d 01 00", 6},
		{"a Gen far too great", "00 00 00 00 01: 00 ff ff ff ff ff ff ff ff ff 01 01 00", 6},
		{"a Gen too great of the same Index", "00 00 00 00 02: 00 c0 84 3d 01 00, 00 c1 84 3d 01 00", 12},
		{"a Gen behind the last one", "00 00 00 00 02: 00 c0 84 3d 01 00, 00 01 01 00", 12},
		{"a Gen behind the last one of the last Index", "00 00 00 00 02: c7 01 c0 84 3d 01 00, c7 01 c0 84 3d 01 00", 14},
		{"no Index behind the last one of the last Index", "00 00 00 00 02: c7 01 c0 84 3d 01 00, c8 01 01 01 00", 12},
		{"a What 0", "00 00 00 00 01: 00 01 00 00", 7},
		{"a What 4", "00 00 00 00 01: 00 01 04 00", 7},
		{"a What far too great", "00 00 00 00 01: 00 01 81 80 80 80 80 80 80 80 80 01 00", 7},
		{"the bit 0 in a gone one's set", "00 00 00 00 01: 00 01 01 01", 8},
		{"a bit too high in a gone one's set", "00 00 00 00 01: 00 01 01 10", 8},
		{"the bit 0 in a new one's set", "00 00 00 00 01: 00 01 02 09", 8},
		{"a bit too high in a new one's set", "00 00 00 00 01: 00 01 02 18", 8},
		{"the highest bit in a set", "00 00 00 00 01: 00 01 02 88 80 80 80 80 80 80 80 80 01", 8},
		{"the bit 0 in the first set", "00 00 00 00 01: 00 01 03 01 08", 8},
		{"a bit too high in the first set", "00 00 00 00 01: 00 01 03 10 08", 8},
		{"the bit 0 in the second set", "00 00 00 00 01: 00 01 03 08 01", 9},
		{"a bit too high in the second set", "00 00 00 00 01: 00 01 03 00 10", 9},
		{"a bit too high in both", "00 00 00 00 01: 00 01 03 10 10", 8},
		{"two sets without kinds", "00 00 00 00 01: 00 01 03 00 00", 9},
		{"a kind without fields in both", "00 00 00 00 01: 00 01 03 08 08", 9},
		{"a kind without fields in both, and others", "00 00 00 00 01: 00 01 03 0c 0a 02 04 06", 9},
		{"a value that stays", "00 00 00 00 01: 00 01 03 04 04 0e 0e", 11},
		{"values that stay", "00 00 00 00 01: 00 01 03 02 02 0e 10 0e 10", 12},
		{"values that stay, of the first of two kinds", "00 00 00 00 01: 00 01 03 06 06 02 04 06 02 04 08", 13},
		{"values that stay, of the second of two kinds", "00 00 00 00 01: 00 01 03 06 06 02 04 06 02 06 06", 15},
		{"values that stay, and one that is none behind", "00 00 00 00 01: 00 01 03 06 06 02 04 06 02 04 80 00", 13},
		{"values that stay, and nothing behind", "00 00 00 00 01: 00 01 03 06 06 02 04 06 02 04", 13},
		{"a value that stays, and then none", "00 00 00 00 01: 00 01 03 02 02 02 04 02", 13},
		{"a value that stays, and then one that is none", "00 00 00 00 01: 00 01 03 02 02 02 04 02 84 00", 13},
		{"a value in too many bytes that would stay", "00 00 00 00 01: 00 01 03 04 04 0e 8e 00", 11},
		{"no value in a", "00 00 00 00 01: 00 01 03 04 04", 10},
		{"a value too few", "00 00 00 00 01: 00 01 02 02 0e", 10},
		{"fewer changes than told", "00 00 00 00 02: 00 01 01 00", 9},
		{"no changes, but one told", "00 00 00 00 01", 5},
		{"no changes, but very many told", "00 00 00 00 ff ff ff ff ff ff ff ff ff 01", 14},
		{"more changes than told", "00 00 00 00 01: 00 01 01 00, 01 01 01 00", 9},
		{"no change told", "00 00 00 00 00: 00 01 01 00", 5},
		{"a number of changes in too many bytes", "00 00 00 00 80 00", 4},
		{"a number of changes above 64 bits", "00 00 00 00 ff ff ff ff ff ff ff ff ff 02", 4},
		{"no number of changes", "00 00 00 00", 4},
		{"three rows", "00 00 00", 3},
		{"two rows", "00 00", 2},
		{"one row", "00", 1},
		{"nothing", "", 0},
		{"a first row in another form", "01 01 02, 00 00 00 00", 0},
		{"a second row in another form", "01 00 02, 04 00 0a 0a 0a 0a, 00 00 00", 3},
		{"a third row without its number", "00 00, 01 00", 2},
		{"a fourth row of another form", "00 00 00, 01 03 02, 00", 3},
	} {
		wantFault(t, c.why, three(), unhex(t, c.text), c.at, api.ErrDelta)
	}
}

// TestStandsAtTheEdge: E3, what may just stand.
func TestStandsAtTheEdge(t *testing.T) {
	for text, want := range map[string][]api.Change{
		"00 00 00 00 01: c7 01 01 01 00":                            {{E: e(199, 1), Gone: true}},
		"00 00 00 00 01: 00 c0 84 3d 01 00":                         {{E: e(0, 1000000), Gone: true}},
		"00 00 00 00 02: 00 c0 84 3d 01 00, 01 01 01 00":            {{E: e(0, 1000000), Gone: true}, {E: e(1, 1), Gone: true}},
		"00 00 00 00 02: 00 bf 84 3d 01 00, 00 c0 84 3d 01 00":      {{E: e(0, 999999), Gone: true}, {E: e(0, 1000000), Gone: true}},
		"00 00 00 00 02: 05 09 01 00, 06 01 01 00":                  {{E: e(5, 9), Gone: true}, {E: e(6, 1), Gone: true}},
		"00 00 00 00 01: 00 01 02 0e 02 04 06":                      {{E: e(0, 1), New: true, Parts: list(p(1, 1, 2), p(2, 3), p(3))}},
		"00 00 00 00 01: 00 01 03 00 08":                            {{E: e(0, 1), Parts: list(p(3))}},
		"00 00 00 00 01: 00 01 03 08 00":                            {{E: e(0, 1), Lost: []int{3}}},
		"00 00 00 00 01: 00 01 03 02 02 02 04 02 06":                {{E: e(0, 1), Parts: list(p(1, 1, 3))}},
		"00 00 00 00 01: 00 01 03 02 02 02 04 04 02":                {{E: e(0, 1), Parts: list(p(1, 2, 1))}},
		"00 00 00 00 01: 00 01 03 04 02 02 02 02":                   {{E: e(0, 1), Parts: list(p(1, 1, 1)), Lost: []int{2}}},
		"00 00 00 00 01: 00 01 03 0e 06 02 04 06 02 06 04":          {{E: e(0, 1), Parts: list(p(1, 1, 3), p(2, 2)), Lost: []int{3}}},
		"00 00 00 00 01: 00 01 02 04 ff ff ff ff ff ff ff ff ff 01": {{E: e(0, 1), New: true, Parts: list(p(2, -1<<63))}},
	} {
		wantChanges(t, three(), unhex(t, text), want...)
	}
}

// TestRowsTooLong: E3, a row has at most as many numbers as entities may live.
func TestRowsTooLong(t *testing.T) {
	most, more := pack.PutRow(nil, slices.Repeat(gens(3), api.MaxEntities)), pack.PutRow(nil, slices.Repeat(gens(3), api.MaxEntities+1))
	for at := range 4 {
		rows := [][]byte{most, most, most, most, {0}}
		wantChanges(t, two(), slices.Concat(rows...))
		rows[at] = more
		wantFault(t, "a row too long", two(), slices.Concat(rows...), at*len(most), api.ErrDelta)
	}
}

// written are deltas, each as the rows and numbers of which it is made.
func written(t testing.TB) map[string][][]byte {
	all := map[string][][]byte{}
	for what, pair := range pairs(t) {
		all[what] = piecesOf(t, three(), pair.d)
	}
	return all
}

// piecesOf cuts a delta of the form up into its rows and numbers.
func piecesOf(t testing.TB, kinds []api.Kind, d []byte) [][]byte {
	t.Helper()
	m, at := parsed(kinds, d)
	if at >= 0 {
		t.Fatalf("the test's own delta: % x at %d", d, at)
	}
	var pieces [][]byte
	for _, row := range m.rows {
		pieces = append(pieces, pack.PutRow(nil, row))
	}
	pieces = append(pieces, pack.Put(nil, uint64(len(m.entries))))
	for _, x := range m.entries {
		pieces = append(pieces, x.numbers()...)
	}
	if !bytes.Equal(slices.Concat(pieces...), d) {
		t.Fatalf("the test's own pieces: % x, want % x", pieces, d)
	}
	return pieces
}

// TestCutOff: E3, what ends too early does so where a row or number begins that is not there, or not whole.
func TestCutOff(t *testing.T) {
	for what, pieces := range written(t) {
		d, begin, next := slices.Concat(pieces...), 0, 0
		for size := range d {
			for size >= begin+len(pieces[next]) {
				begin, next = begin+len(pieces[next]), next+1
			}
			wantFault(t, what+", cut off", three(), d[:size:size], begin, api.ErrDelta)
			wantNoJoin(t, what+", cut off", three(), d[:size:size], d)
			wantNoJoin(t, what+", cut off", three(), d, d[:size:size])
		}
		wantFault(t, what+", with a byte behind", three(), append(d, 0), len(d), api.ErrDelta)
		wantFault(t, what+", with itself behind", three(), slices.Concat(d, d), len(d), api.ErrDelta)
	}
}

// TestEachPieceSpoilt: E3, what pack does not take is found wherever it stands, whatever comes behind it.
func TestEachPieceSpoilt(t *testing.T) {
	for what, pieces := range written(t) {
		begin := 0
		for i, piece := range pieces {
			for _, junk := range [][]byte{{0x80, 0}, {0xff, 0xff, 0xff, 0xff, 0xff, 0xff, 0xff, 0xff, 0xff, 0x02}} {
				spoilt := slices.Clone(pieces)
				spoilt[i] = junk
				wantFault(t, what+", spoilt", three(), slices.Concat(spoilt...), begin, api.ErrDelta)
				wantNoJoin(t, what+", spoilt", three(), slices.Concat(spoilt...), slices.Concat(pieces...))
			}
			begin += len(piece)
		}
	}
}

// TestFault: P5 of DOC.md, a fault has its place, and wraps its number.
func TestFault(t *testing.T) {
	_, err := delta.Changes(two(), []byte{0, 0, 9})
	if !errors.Is(err, api.ErrDelta) || errors.Is(err, api.ErrKinds) || err.Error() != "hindcast: error 200 at 2" {
		t.Errorf("P5: %v", err)
	}
	_, err = delta.Changes(nil, nil)
	if !errors.Is(err, api.ErrKinds) || errors.Is(err, api.ErrDelta) || err.Error() != "hindcast: error 65 at 0" {
		t.Errorf("P5: %v", err)
	}
	changes, err := delta.Changes(two(), make([]byte, 5))
	if err != nil || len(changes) != 0 {
		t.Errorf("E3: Changes of a delta without changes: %v, %v", changes, err)
	}
}
