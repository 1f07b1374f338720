package store_test

import (
	"bytes"
	"sync"
	"testing"

	"hindcast/api"
	"hindcast/store"
)

// room is that many bytes behind which nothing may be written unseen.
func room(n int) []byte { return bytes.Repeat([]byte{0xee}, n) }

// spoil writes into all of b, and into the room behind it.
func spoil(b []byte) {
	b = b[:cap(b)]
	for i := range b {
		b[i] ^= 0xff
	}
}

// wantKept holds bytes that were handed in, and what is around them, against what they were.
func wantKept(t *testing.T, what string, around []byte) {
	t.Helper()
	if !bytes.Equal(around, room(len(around))) {
		t.Errorf("P3: %s writes into what it is given: %x", what, around)
	}
}

// TestNewKeepsNothing: P3, the bytes of a store are its own.
func TestNewKeepsNothing(t *testing.T) {
	around := room(64)
	s, _ := store.New(around[:3])
	s.Append([]byte("abc"))
	s.Crash(1, []byte("xy"))
	s.Restart()
	s.Cut(1)
	s.Append([]byte("def"))
	wantKept(t, "a store", around)
	spoil(around)
	wantOn(t, s, "\xee", "def")
}

func TestAppendKeepsNothing(t *testing.T) {
	for _, fuse := range []int{2, 3, 9} {
		around := room(64)
		s := made(t, "", "")
		s.Fuse(fuse)
		s.Append(around[:3])
		s.Restart()
		s.Append([]byte("abc"))
		s.Cut(4)
		s.Append([]byte("def"))
		wantKept(t, "Append", around)
		was := string(s.Bytes())
		spoil(around)
		if b := s.Bytes(); string(b) != was {
			t.Errorf("P3: what was added, %q, has become %q", was, b)
		}
	}
}

// TestAppendOnNothing: P3, an empty store may not take the first bytes that are added as they are.
func TestAppendOnNothing(t *testing.T) {
	s := made(t, "", "")
	b := []byte("abc")
	s.Append(b)
	spoil(b)
	wantOn(t, s, "", "abc")
}

func TestCrashKeepsNothing(t *testing.T) {
	around := room(64)
	s := made(t, "", "")
	s.Crash(0, around[:3])
	s.Restart()
	s.Append([]byte("abc"))
	wantKept(t, "Crash", around)
	spoil(around)
	wantOn(t, s, "\xee\xee\xee", "abc")
}

// TestBytesAreNewMemory: P3, what came out stays, whatever becomes of the store, and the store stays, whatever becomes of it.
func TestBytesAreNewMemory(t *testing.T) {
	s := made(t, "last", "loose")
	one, two := s.Bytes(), s.Bytes()
	spoil(one)
	_ = append(one, "behind"...)
	if string(two) != "lastloose" {
		t.Errorf("P3: two answers of Bytes share memory: %q", two)
	}
	wantOn(t, s, "last", "loose")
	s.Cut(1)
	s.Append([]byte("other bytes"))
	if string(two) != "lastloose" {
		t.Errorf("P3: what Bytes answered has become %q", two)
	}
	s.Crash(0, []byte("junk"))
	if string(two) != "lastloose" {
		t.Errorf("P3: what Bytes answered has become %q", two)
	}
}

// TestBytesHandedInAgain: P3, what came out of a store may go into it again.
func TestBytesHandedInAgain(t *testing.T) {
	s := made(t, "ab", "c")
	s.Append(s.Bytes())
	wantOn(t, s, "ab", "cabc")
	s.Crash(2, s.Bytes())
	wantOff(t, s, "abcaabcabc")
}

// TestStoresAreApart: P4, two stores of the same bytes have nothing to do with one another.
func TestStoresAreApart(t *testing.T) {
	b := []byte("same")
	one, _ := store.New(b)
	two, _ := store.New(b)
	one.Fuse(1)
	one.Cut(2)
	one.Append([]byte("xyz"))
	wantState(t, one, 3, 3, false)
	wantOn(t, two, "same", "")
	two.Append([]byte("more"))
	wantOn(t, two, "same", "more")
	wantOff(t, one, "sax")
}

// TestSideBySide: P4, stores on goroutines of their own answer as they do alone.
func TestSideBySide(t *testing.T) {
	b, more := []byte("the same bytes"), []byte(" and more")
	var group sync.WaitGroup
	for range 8 {
		group.Go(func() {
			for range 200 {
				s, _ := store.New(b)
				s.Append(more)
				s.Sync()
				s.Append(more)
				s.Crash(2, more)
				s.Restart()
				s.Fuse(1)
				e := s.Append(more)
				s.Restart()
				if string(s.Bytes()) != "the same bytes and more a and more " || e != api.ErrDead {
					t.Errorf("P4: another answer beside other stores: %q, %v", s.Bytes(), e)
					return
				}
			}
		})
	}
	group.Wait()
}
