package record_test

import (
	"bytes"
	"slices"
	"sync"
	"testing"

	"hindcast/api"
	"hindcast/record"
)

// room is that many bytes behind which nothing may be written unseen.
func room(n int) []byte { return bytes.Repeat([]byte{0xee}, n) }

func spoil(b []byte) {
	b = b[:cap(b)]
	for i := range b {
		b[i] ^= 0xff
	}
}

// TestPutIsNewMemory: P3, nothing is written into b, into data or behind them, and no two answers share memory.
func TestPutIsNewMemory(t *testing.T) {
	around, dataAround := room(64), room(64)
	b, data := around[:3], dataAround[:5]
	one, _ := record.Put(b, data)
	two, _ := record.Put(b, data)
	if !bytes.Equal(around, room(64)) || !bytes.Equal(dataAround, room(64)) {
		t.Errorf("P3: Put writes into what it is given: %x, %x", around, dataAround)
	}
	want := slices.Concat(room(3), made(room(5)))
	spoil(one)
	if !bytes.Equal(two, want) || !bytes.Equal(around, room(64)) || !bytes.Equal(dataAround, room(64)) {
		t.Errorf("P3: what Put answers shares memory: %x", two)
	}
	spoil(around)
	spoil(dataAround)
	if !bytes.Equal(two, want) {
		t.Errorf("P3: what Put answered has become %x", two)
	}
}

func TestPutWritesNothingWhenItRefuses(t *testing.T) {
	around := room(64)
	record.Put(around[:3], nil)
	record.Put(around[:3], some(api.MaxRecord+1))
	if !bytes.Equal(around, room(64)) {
		t.Errorf("P2: a Put that is refused writes %x", around)
	}
}

// TestGetIsNewMemory: P3, what was read stays, whatever becomes of the bytes, and the bytes stay, whatever becomes of what was read.
func TestGetIsNewMemory(t *testing.T) {
	for _, n := range []int{1, 3, 40, 200} {
		b := slices.Concat(made(some(n)), made(some(8)))
		kept := bytes.Clone(b)
		one, _ := record.Get(b)
		two, _ := record.Get(b)
		if !bytes.Equal(b, kept) {
			t.Fatalf("P3: Get of %d bytes has changed them to %x", n, b)
		}
		spoil(one)
		if !bytes.Equal(two, some(n)) || !bytes.Equal(b, kept) {
			t.Errorf("P3: what Get answers of %d bytes shares memory", n)
		}
		spoil(b)
		if !bytes.Equal(two, some(n)) {
			t.Errorf("P3: what Get answered of %d bytes has become %x", n, two)
		}
	}
}

// TestScanIsNewMemory: P3, each of the data stays, whatever becomes of the bytes and of the data beside it.
func TestScanIsNewMemory(t *testing.T) {
	all := rows()[3]
	b, _ := row(t, all)
	b = append(b, 0x82, 0x7f) // and a torn one
	kept := bytes.Clone(b)
	for i := range all {
		list, _ := record.Scan(b)
		other, _ := record.Scan(b)
		spoil(list[i])
		_ = append(list[i], room(40)...)
		list[i] = all[i]
		if !same(list, all) || !same(other, all) || !bytes.Equal(b, kept) {
			t.Errorf("P3: the data %d that Scan tells shares memory", i)
		}
		_ = append(list[:0], room(1), room(2), room(3))
		if !same(other, all) {
			t.Errorf("P3: two lists that Scan tells share memory")
		}
		spoil(b)
		if !same(other, all) {
			t.Errorf("P3: what Scan told has become %x", other)
		}
		copy(b, kept)
	}
}

// TestWalkKeepsTheBytes: R4, whatever becomes of b, of its room and of the data, at whatever time.
func TestWalkKeepsTheBytes(t *testing.T) {
	all := rows()[2]
	b, _ := row(t, all)
	walk := record.Walk(b)
	for turn := range 3 {
		i := 0
		for _, data := range walk {
			if !bytes.Equal(data, all[i]) {
				t.Errorf("R4: turn %d, record %d is told as %q", turn, i, data)
			}
			before := bytes.Clone(b)
			spoil(data)
			_ = append(data, room(40)...)
			if !bytes.Equal(b, before) {
				t.Errorf("P3: the data that Walk gives shares memory with b")
			}
			spoil(b)
			i++
		}
		if i != len(all) {
			t.Errorf("R4: turn %d gave %d records", turn, i)
		}
	}
}

// TestWalkLooksAtOnce: R4, those that stood in b when Walk was called, not those that came later.
func TestWalkLooksAtOnce(t *testing.T) {
	b, _ := row(t, rows()[2])
	late := make([]byte, len(b))
	walk := record.Walk(late)
	copy(late, b)
	for place, data := range walk {
		t.Errorf("R4: a record that came later is told: %d, %q", place, data)
	}
}

// TestCallsWriteNothing: P3, nor behind what is handed in, be the bytes right or spoilt.
func TestCallsWriteNothing(t *testing.T) {
	for i, tail := range tails() {
		around := slices.Concat(made([]byte("first")), tail, room(32))
		kept := bytes.Clone(around)
		b := around[:len(around)-32]
		record.Get(b)
		record.Get(b[len(b)-len(tail):])
		record.Scan(b)
		for range record.Walk(b) {
		}
		if !bytes.Equal(around, kept) {
			t.Errorf("P3: tail %d: %x has become %x", i, kept, around)
		}
	}
}

// TestSideBySide: P4, calls have nothing to do with one another, on whatever goroutines they run.
func TestSideBySide(t *testing.T) {
	all := rows()[2]
	b, _ := row(t, all)
	walk := record.Walk(b)
	var group sync.WaitGroup
	for range 8 {
		group.Go(func() {
			for range 200 {
				list, size := record.Scan(b)
				one, e := record.Put(b, all[0])
				var walked [][]byte
				for _, data := range walk {
					walked = append(walked, data)
				}
				if !same(list, all) || size != len(b) || !same(walked, all) || e != api.OK || len(one) != len(b)+9 {
					t.Error("P4: another answer beside other calls")
					return
				}
			}
		})
	}
	group.Wait()
}
