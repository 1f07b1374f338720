package record_test

import (
	"bytes"
	"encoding/binary"
	"hash/crc32"
	"math/rand"
	"slices"
	"testing"

	"hindcast/api"
	"hindcast/record"
)

// made is the record of data as the chapter says it, by other means than the package's.
func made(data []byte) []byte {
	head := binary.AppendUvarint([]byte{0x82}, uint64(len(data)))
	return sealed(head, data)
}

// sealed puts the right sum between a head and data, whatever these are.
func sealed(head, data []byte) []byte {
	sum := crc32.Checksum(slices.Concat(head, data), crc32.MakeTable(crc32.Castagnoli))
	return slices.Concat(binary.LittleEndian.AppendUint32(bytes.Clone(head), sum), data)
}

// some are that many bytes, none like the one beside it.
func some(n int) []byte {
	b := make([]byte, n)
	for i := range b {
		b[i] = byte(i*7 + n)
	}
	return b
}

// edges are the lengths at which the number of the bytes, or the answer, becomes another.
var edges = []int{1, 2, 3, 127, 128, 129, 16383, 16384, 16385, api.MaxRecord - 1, api.MaxRecord}

func TestPutWritesTheRecord(t *testing.T) {
	for _, n := range edges {
		data := some(n)
		for _, b := range [][]byte{nil, {}, []byte("x"), made([]byte("ahead"))} {
			got, e := record.Put(b, data)
			if e != api.OK || !bytes.Equal(got, slices.Concat(b, made(data))) {
				t.Errorf("R1: Put of %d bytes behind %d: %d bytes, %v", n, len(b), len(got), e)
			}
		}
	}
}

func TestPutByHand(t *testing.T) {
	got, e := record.Put(nil, []byte("ab"))
	want := []byte{0x82, 0x02, 0x90, 0xad, 0x0c, 0xf9, 'a', 'b'}
	if e != api.OK || !bytes.Equal(got, want) {
		t.Errorf("R1: Put of ab: %x, %v", got, e)
	}
	if data, size := record.Get(got); string(data) != "ab" || size != 8 {
		t.Errorf("R2: Get of the record of ab: %q, %d", data, size)
	}
}

func TestPutRefuses(t *testing.T) {
	for _, data := range [][]byte{nil, {}, some(api.MaxRecord + 1), some(3 * api.MaxRecord)} {
		for _, b := range [][]byte{nil, []byte("ahead")} {
			if got, e := record.Put(b, data); got != nil || e != api.ErrArg {
				t.Errorf("R1: Put of %d bytes: %d bytes, %v", len(data), len(got), e)
			}
		}
	}
}

func TestGetReadsTheRecord(t *testing.T) {
	for _, n := range edges {
		data := some(n)
		whole := made(data)
		for _, behind := range [][]byte{nil, {0}, {0x82}, []byte("anything"), whole} {
			got, size := record.Get(slices.Concat(whole, behind))
			if !bytes.Equal(got, data) || size != len(whole) {
				t.Errorf("R2: Get of %d bytes, and %d behind them: %d, %d", n, len(behind), len(got), size)
			}
		}
	}
}

func wantNone(t *testing.T, what string, b []byte) {
	t.Helper()
	if data, size := record.Get(b); data != nil || size != 0 {
		t.Errorf("R2: Get of %s: %x, %d", what, data, size)
	}
	if list, size := record.Scan(b); len(list) != 0 || size != 0 {
		t.Errorf("R3: Scan of %s: %x, %d", what, list, size)
	}
	for place, data := range record.Walk(b) {
		t.Errorf("R4: Walk of %s: %d, %x", what, place, data)
	}
}

func TestTornRecords(t *testing.T) {
	wantNone(t, "nil", nil)
	for _, n := range []int{1, 2, 127, 128, 300} {
		whole := made(some(n))
		for end := range whole {
			wantNone(t, "the first bytes of a record", whole[:end])
			// What stands behind the cut, in b's room, is not b's.
			wantNone(t, "the first bytes of a record", whole[:end:end])
		}
	}
	whole := made(some(api.MaxRecord))
	wantNone(t, "the longest record without its end", whole[:len(whole)-1])
}

// TestWrongHeads: the sums are right, so that it is the head alone that begins no record.
func TestWrongHeads(t *testing.T) {
	data := some(300)
	long := func(n int) []byte { return binary.AppendUvarint([]byte{0x82}, uint64(n)) }
	rows := map[string][]byte{
		"no data":                  sealed([]byte{0x82, 0}, nil),
		"no data, and more behind": slices.Concat(sealed([]byte{0x82, 0}, nil), data),
		"a byte too many":          sealed(long(api.MaxRecord+1), some(api.MaxRecord+1)),
		"0 in two bytes":           sealed([]byte{0x82, 0x80, 0}, nil),
		"1 in two bytes":           sealed([]byte{0x82, 0x81, 0}, data[:1]),
		"300 in three bytes":       sealed([]byte{0x82, 0xac, 0x82, 0}, data),
		"another first byte":       sealed([]byte{0x83, 1}, data[:1]),
		"no first byte":            sealed([]byte{1}, data[:1]),
		"a number without an end":  {0x82, 0x80, 0x80, 0x80, 0x80, 0x80, 0x80, 0x80, 0x80, 0x80, 0x80, 0x80, 0x80, 0x80},
		"2^32 + 1 bytes":           sealed([]byte{0x82, 0x81, 0x80, 0x80, 0x80, 0x10}, data[:1]),
		"2^63 bytes":               sealed([]byte{0x82, 0x80, 0x80, 0x80, 0x80, 0x80, 0x80, 0x80, 0x80, 0x80, 0x01}, data[:1]),
		"2^64 - 1 bytes":           sealed([]byte{0x82, 0xff, 0xff, 0xff, 0xff, 0xff, 0xff, 0xff, 0xff, 0xff, 0x01}, data[:1]),
		"the number alone":         {0x82, 1},
		"the mark alone":           {0x82},
		"no mark":                  {0},
	}
	for what, b := range rows {
		wantNone(t, what, b)
	}
}

// TestWrongSums: each byte of the head and of the data is under the sum, in this order, the sum's lowest byte first.
func TestWrongSums(t *testing.T) {
	data := []byte("data")
	head := []byte{0x82, 4}
	of := func(b []byte) uint32 { return crc32.Checksum(b, crc32.MakeTable(crc32.Castagnoli)) }
	put := func(sum uint32) []byte {
		return slices.Concat(binary.LittleEndian.AppendUint32(bytes.Clone(head), sum), data)
	}
	right := of(slices.Concat(head, data))
	if got, size := record.Get(put(right)); string(got) != "data" || size != 10 {
		t.Fatalf("R2: Get of a right record: %q, %d", got, size)
	}
	wantNone(t, "a record summed over its data alone", put(of(data)))
	wantNone(t, "a record summed without the mark", put(of(slices.Concat(head[1:], data))))
	wantNone(t, "a record summed without the number", put(of(slices.Concat(head[:1], data))))
	wantNone(t, "a record summed the other way round", put(of(slices.Concat(data, head))))
	wantNone(t, "a record with its sum's bits turned", put(^right))
	wantNone(t, "a record with the sum 0", put(0))
	wantNone(t, "a record with its sum's highest byte first",
		slices.Concat(binary.BigEndian.AppendUint32(bytes.Clone(head), right), data))
}

// TestTurnedBytes: a record of which one byte is turned is no beginning of bytes with that record's data.
func TestTurnedBytes(t *testing.T) {
	for _, n := range []int{1, 5, 130} {
		data := some(n)
		whole := slices.Concat(made(data), made(some(9)))
		for i := range made(data) {
			was := whole[i]
			for by := range 255 {
				whole[i] = was ^ byte(by+1)
				if got, size := record.Get(whole); size != 0 || got != nil {
					t.Fatalf("R2: of %d bytes, that at %d turned by %02x: %x, %d", n, i, by+1, got, size)
				}
			}
			whole[i] = was
		}
	}
}

// row puts the records of all data one behind the other, and tells their places.
func row(t *testing.T, all [][]byte) ([]byte, []int) {
	t.Helper()
	var b []byte
	var places []int
	for _, data := range all {
		places = append(places, len(b))
		next, e := record.Put(b, data)
		if e != api.OK {
			t.Fatalf("R1: Put of %d bytes: %v", len(data), e)
		}
		b = next
	}
	return b, places
}

func same(one, two [][]byte) bool {
	return slices.EqualFunc(one, two, bytes.Equal)
}

// tails are bytes that begin with no record, some of them with one further on.
func tails() [][]byte {
	turned := made([]byte("turned"))
	turned[7] ^= 0x10
	return [][]byte{
		nil, {0}, {0x82}, {0x82, 0}, {0x82, 1}, []byte("anything at all"),
		made([]byte("torn"))[:9], turned, slices.Concat(turned, made([]byte("whole"))),
		slices.Concat([]byte{0}, made([]byte("whole"))), slices.Concat([]byte{0x82}, made([]byte("whole"))),
		sealed([]byte{0x82, 0}, nil),
	}
}

func rows() [][][]byte {
	return [][][]byte{
		nil,
		{some(1)},
		{[]byte("one"), []byte("two"), []byte("three")},
		{some(7), some(7), some(7)},
		{some(127), some(128), some(16384), some(1)},
		{made([]byte("a record as data")), {0x82}, {0, 0, 0}},
		{some(api.MaxRecord), some(api.MaxRecord)},
	}
}

func TestScanTellsAll(t *testing.T) {
	for i, all := range rows() {
		b, _ := row(t, all)
		for j, tail := range tails() {
			got, size := record.Scan(slices.Concat(b, tail))
			if !same(got, all) || size != len(b) {
				t.Errorf("R3: Scan of row %d, tail %d: %d records, %d bytes of %d", i, j, len(got), size, len(b))
			}
		}
	}
}

func TestWalkGivesWhatScanTells(t *testing.T) {
	for i, all := range rows() {
		b, places := row(t, all)
		for j, tail := range tails() {
			walk := record.Walk(slices.Concat(b, tail))
			for turn := range 2 {
				var at []int
				var got [][]byte
				for place, data := range walk {
					at, got = append(at, place), append(got, data)
				}
				if !same(got, all) || !slices.Equal(at, places) {
					t.Errorf("R4: Walk of row %d, tail %d, turn %d: %d records at %v", i, j, turn, len(got), at)
				}
			}
		}
	}
}

// TestWalkStops: at whichever record; and it begins at the front again.
func TestWalkStops(t *testing.T) {
	b, places := row(t, rows()[2])
	walk := record.Walk(b)
	for stop := range places {
		seen := 0
		walk(func(place int, data []byte) bool {
			if place != places[seen] {
				t.Errorf("R4: record %d is told at %d", seen, place)
			}
			seen++
			return seen <= stop
		})
		if seen != stop+1 {
			t.Errorf("R4: stopped at record %d, it gave %d", stop, seen)
		}
	}
}

// TestWalksWithinWalks: a walk that is under way changes no other one.
func TestWalksWithinWalks(t *testing.T) {
	all := rows()[2]
	b, places := row(t, all)
	walk := record.Walk(b)
	outer := 0
	for place, data := range walk {
		inner := 0
		for range walk {
			inner++
		}
		if place != places[outer] || !bytes.Equal(data, all[outer]) || inner != len(all) {
			t.Errorf("R4: a walk within a walk: %d, %q, %d", place, data, inner)
		}
		outer++
	}
	if outer != len(all) {
		t.Errorf("R4: %d records around walks", outer)
	}
}

// TestScanOfAnything: what Scan tells, put one behind the other, is just the bytes that it counts, and no record begins behind them.
func TestScanOfAnything(t *testing.T) {
	r := rand.New(rand.NewSource(2))
	for range 3000 {
		checkScan(t, noise(r))
	}
}

// noise is a row of right records and of spoilt ones.
func noise(r *rand.Rand) []byte {
	var b []byte
	for range r.Intn(6) {
		data := make([]byte, r.Intn(200)+1)
		r.Read(data)
		whole := made(data)
		switch r.Intn(6) {
		case 0:
			whole[r.Intn(len(whole))] ^= byte(1 << r.Intn(8))
		case 1:
			whole = whole[:r.Intn(len(whole))]
		}
		b = append(b, whole...)
	}
	return b
}

func checkScan(t *testing.T, b []byte) {
	t.Helper()
	list, size := record.Scan(b)
	again, _ := row(t, list)
	if size > len(b) || !bytes.Equal(again, b[:size]) {
		t.Fatalf("R3: Scan of %x counts %d, its records put again are %x", b, size, again)
	}
	if data, more := record.Get(b[size:]); more != 0 || data != nil {
		t.Fatalf("R3: Scan of %x stops at %d, ahead of a record", b, size)
	}
	first, end := record.Get(b)
	if len(list) == 0 && end != 0 || len(list) > 0 && (!bytes.Equal(first, list[0]) || !bytes.Equal(made(first), b[:end])) {
		t.Fatalf("R2: Get of %x: %x, %d", b, first, end)
	}
}

// FuzzScan: P1, every call ends and none panics, at all bytes.
func FuzzScan(f *testing.F) {
	f.Add([]byte("data"), []byte{0x82, 1})
	f.Add([]byte{0}, []byte{0x82, 0x80, 0})
	f.Fuzz(func(t *testing.T, data, tail []byte) {
		checkScan(t, tail)
		b, e := record.Put(nil, data)
		if wrong := len(data) == 0 || len(data) > api.MaxRecord; wrong != (e == api.ErrArg) || wrong != (b == nil) {
			t.Fatalf("R1: Put of %d bytes: %d, %v", len(data), len(b), e)
		}
		checkScan(t, slices.Concat(b, tail))
	})
}
