package pack_test

import (
	"bytes"
	"math/rand"
	"slices"
	"sync"
	"testing"

	"hindcast/pack"
)

// puts are all Puts, each with something to put.
func puts() map[string]func(b []byte) []byte {
	return map[string]func(b []byte) []byte{
		"Put 0":         func(b []byte) []byte { return pack.Put(b, 0) },
		"Put":           func(b []byte) []byte { return pack.Put(b, 300) },
		"PutInt":        func(b []byte) []byte { return pack.PutInt(b, -300) },
		"PutText empty": func(b []byte) []byte { return pack.PutText(b, "") },
		"PutText":       func(b []byte) []byte { return pack.PutText(b, "text") },
		"PutRow empty":  func(b []byte) []byte { return pack.PutRow(b, nil) },
		"PutRow plain":  func(b []byte) []byte { return pack.PutRow(b, []int64{7}) },
		"PutRow steps":  func(b []byte) []byte { return pack.PutRow(b, []int64{1000, 1001, 1002}) },
		"PutRow runs":   func(b []byte) []byte { return pack.PutRow(b, []int64{5, 5, 5, 5}) },
	}
}

// TestPutsAreNewMemory: P3, nothing is written into b or behind it, and no two answers share memory.
func TestPutsAreNewMemory(t *testing.T) {
	for name, put := range puts() {
		room := bytes.Repeat([]byte{0xee}, 64)
		b := room[:3]
		one, two := put(b), put(b)
		if !bytes.Equal(room, bytes.Repeat([]byte{0xee}, 64)) {
			t.Errorf("P3: %s writes into or behind what it is given: %x", name, room)
		}
		if !bytes.Equal(one, two) || !bytes.Equal(one[:3], b) {
			t.Errorf("P4: %s answers %x, and then %x", name, one, two)
		}
		kept := bytes.Clone(two)
		spoil(one[:cap(one)])
		if !bytes.Equal(two, kept) || !bytes.Equal(room, bytes.Repeat([]byte{0xee}, 64)) {
			t.Errorf("P3: what %s answers shares memory with something else", name)
		}
		if !bytes.Equal(put(nil), two[3:]) || !bytes.Equal(put([]byte{}), two[3:]) {
			t.Errorf("A: %s behind nothing is not what it is behind something", name)
		}
	}
}

func spoil(b []byte) {
	for i := range b {
		b[i] ^= 0xff
	}
}

// TestGetsAreNewMemory: P3, what was read stays, whatever becomes of the bytes, and the bytes stay, whatever becomes of what was read.
func TestGetsAreNewMemory(t *testing.T) {
	text := pack.PutText(nil, "text")
	s, _ := pack.GetText(text)
	spoil(text)
	if s != "text" {
		t.Errorf("P3: a text that was read is changed to %q", s)
	}
	for _, row := range [][]int64{{7}, {1000, 1001, 1002}, {5, 5, 5, 5}} {
		b := pack.PutRow(nil, row)
		before := bytes.Clone(b)
		one, _ := pack.GetRow(b, 10)
		two, _ := pack.GetRow(b, 10)
		one = one[:cap(one)]
		for i := range one {
			one[i] = -9
		}
		if !slices.Equal(two, row) || !bytes.Equal(b, before) {
			t.Errorf("P3: rows that were read share memory: %v, %x", two, b)
		}
	}
}

// TestRowStays: P3, PutRow does not change the row, nor what stands behind it.
func TestRowStays(t *testing.T) {
	for _, row := range [][]int64{{7, 7}, {1000, 1001, 1002, 4}, {5, 5, 5, 5, 9, 9}} {
		kept := slices.Clone(row)
		pack.PutRow(nil, row[:len(row)-1])
		if !slices.Equal(row, kept) {
			t.Errorf("P3: PutRow has changed %v to %v", kept, row)
		}
	}
}

// TestGetsWriteNothing: P3, whatever the bytes are.
func TestGetsWriteNothing(t *testing.T) {
	r := rand.New(rand.NewSource(8))
	for range 2000 {
		b := make([]byte, r.Intn(30))
		r.Read(b)
		kept := bytes.Clone(b)
		pack.Get(b)
		pack.GetInt(b)
		pack.GetText(b)
		pack.GetRow(b, r.Intn(100)-1)
		pack.Sum(b)
		if !bytes.Equal(b, kept) {
			t.Fatalf("P3: %x has become %x", kept, b)
		}
	}
}

// TestSideBySide: P4, calls have nothing to do with one another, on whatever goroutines they run.
func TestSideBySide(t *testing.T) {
	b, row := []byte{1, 2, 3}, []int64{5, 5, 5, 5, 1000, 1001}
	want := pack.PutRow(b, row)
	sum := pack.Sum(want)
	var all sync.WaitGroup
	for range 8 {
		all.Go(func() {
			for range 500 {
				got := pack.PutRow(b, row)
				back, _ := pack.GetRow(got[3:], 10)
				if !bytes.Equal(got, want) || !slices.Equal(back, row) || pack.Sum(got) != sum {
					t.Error("P4: another answer beside other calls")
					return
				}
			}
		})
	}
	all.Wait()
}

// FuzzGets: P1, every call ends and none panics, at all bytes; what is taken is what is written.
func FuzzGets(f *testing.F) {
	f.Add([]byte{4, 2, 1, 4, 0x0a})
	f.Add([]byte{3, 1, 0xd0, 0x0f, 2, 2})
	f.Add([]byte{1, 0, 0x0e})
	f.Add([]byte{0xff, 0xff, 0xff, 0xff, 0xff, 0xff, 0xff, 0xff, 0xff, 1})
	f.Fuzz(func(t *testing.T, b []byte) {
		checkTaken(t, b)
		pack.Sum(b)
		for _, most := range []int{-1, 0, 1, 1 << 62} {
			pack.GetRow(b, most)
		}
	})
}
