package store_test

import (
	"bytes"
	"math"
	"math/rand"
	"testing"

	"hindcast/api"
	"hindcast/store"
)

// model is a store as the chapter's words say it, small enough that MaxStore is far.
type model struct {
	last, loose string
	off         bool
	fuses       []int // the fuse, if one is set
}

func (m *model) fail(stay int, junk string) {
	m.last += m.loose[:stay] + junk
	m.loose, m.off, m.fuses = "", true, nil
}

func (m *model) add(b string) api.Errno {
	for i := range len(b) {
		if len(m.fuses) == 1 {
			if m.fuses[0] == 0 {
				m.fail(len(m.loose), "")
				return api.ErrDead
			}
			m.fuses[0]--
		}
		m.loose += b[i : i+1]
	}
	return api.OK
}

func (m *model) cut(n int) api.Errno {
	if n < 0 || n > len(m.last+m.loose) {
		return api.ErrArg
	}
	for len(m.last+m.loose) > n {
		if m.loose != "" {
			m.loose = m.loose[:len(m.loose)-1]
		} else {
			m.last = m.last[:len(m.last)-1]
		}
	}
	return api.OK
}

// call is one that is made of a store and of its model.
type call struct {
	kind byte
	n    int
	b    []byte
}

func (c call) of(s *store.Store) api.Errno {
	switch c.kind % 6 {
	case 0:
		return s.Append(c.b)
	case 1:
		return s.Sync()
	case 2:
		return s.Cut(c.n)
	case 3:
		return s.Fuse(c.n)
	case 4:
		return s.Crash(c.n, c.b)
	}
	s.Restart()
	return api.OK
}

func (c call) ofModel(m *model) api.Errno {
	if c.kind%6 == 5 {
		m.off, m.fuses = false, nil
		return api.OK
	}
	if m.off {
		return api.ErrDead
	}
	if c.kind%6 == 0 {
		return m.add(string(c.b))
	}
	if c.kind%6 == 2 {
		return m.cut(c.n)
	}
	if c.kind%6 > 2 && c.n < 0 {
		return api.ErrArg
	}
	switch c.kind % 6 {
	case 1:
		m.last, m.loose = m.last+m.loose, ""
	case 3:
		m.fuses = []int{c.n}
	case 4:
		m.fail(min(c.n, len(m.loose)), string(c.b))
	}
	return api.OK
}

// both makes a call of a store and of its model, and holds them against each other.
func both(t *testing.T, s *store.Store, m *model, c call) {
	t.Helper()
	if got, must := c.of(s), c.ofModel(m); got != must {
		t.Fatalf("call %d, %d, %q: %v, want %v", c.kind%6, c.n, c.b, got, must)
	}
	size, lasts, on := s.State()
	if size != len(m.last)+len(m.loose) || lasts != len(m.last) || on == m.off {
		t.Fatalf("S5: behind call %d, %d, %q: %d, %d, %v, want %+v", c.kind%6, c.n, c.b, size, lasts, on, m)
	}
	if b := s.Bytes(); m.off && b != nil || !m.off && string(b) != m.last+m.loose {
		t.Fatalf("S3: behind call %d, %d, %q: %q, want %+v", c.kind%6, c.n, c.b, b, m)
	}
}

// anyCall is one of any kind, more often one that adds, or brings the power back.
func anyCall(r *rand.Rand) call {
	b := make([]byte, r.Intn(8))
	r.Read(b)
	n := r.Intn(20) - 2
	if r.Intn(12) == 0 {
		n = []int{math.MaxInt, math.MinInt, api.MaxStore}[r.Intn(3)]
	}
	kinds := []byte{0, 0, 0, 0, 1, 2, 3, 4, 5, 5}
	return call{kind: kinds[r.Intn(len(kinds))], n: n, b: b}
}

// TestAsTheWordsSay: S1 to S5, whatever is called one behind the other.
func TestAsTheWordsSay(t *testing.T) {
	r := rand.New(rand.NewSource(3))
	for range 500 {
		first := anyCall(r).b
		s, e := store.New(first)
		if e != api.OK {
			t.Fatalf("S1: New of %q: %v", first, e)
		}
		m := &model{last: string(first)}
		for range 60 {
			both(t, s, m, anyCall(r))
		}
	}
}

// read tells the bytes that a store has, be its power on or off.
func read(s *store.Store) []byte {
	s.Restart()
	return s.Bytes()
}

// TestSyncedStands: what was synced, and not cut away, stands in the same places for ever.
func TestSyncedStands(t *testing.T) {
	r := rand.New(rand.NewSource(4))
	for range 300 {
		s := made(t, "first", "")
		synced := []byte("first")
		for range 40 {
			c := anyCall(r)
			e := c.of(s)
			if c.kind == 1 && e == api.OK {
				synced = s.Bytes()
			}
			if c.kind == 2 && e == api.OK {
				synced = synced[:min(len(synced), c.n)]
			}
			if b := read(s); !bytes.HasPrefix(b, synced) {
				t.Fatalf("what was synced, %q, has become %q", synced, b)
			}
		}
	}
}

// TestCrashesTellABeginning: behind crashes without junk, between which nothing is added, stands a beginning of what was there.
func TestCrashesTellABeginning(t *testing.T) {
	r := rand.New(rand.NewSource(5))
	for range 300 {
		s := made(t, "first", "")
		for range 10 {
			anyCall(r).of(s)
		}
		was := read(s)
		for range 5 {
			keep := r.Intn(6)
			want(t, "S4: Crash", s.Crash(keep, nil), api.OK)
			if b := read(s); !bytes.HasPrefix(was, b) {
				t.Fatalf("%q has become %q by a crash that keeps %d", was, b, keep)
			}
		}
	}
}

// FuzzCalls: P1, every call ends and none panics, and all do as the words say; three bytes are a call.
func FuzzCalls(f *testing.F) {
	f.Add([]byte("ab"), []byte{0, 3, 0, 4, 2, 2, 5, 0, 0})
	f.Add([]byte{}, []byte{3, 2, 0, 0, 0, 1, 0, 0, 3, 5, 0, 0, 3, 0, 0, 0, 0, 0, 0, 0, 1})
	f.Fuzz(func(t *testing.T, first, told []byte) {
		s, e := store.New(first)
		if e != api.OK {
			t.Skip()
		}
		m := &model{last: string(first)}
		for ; len(told) >= 3; told = told[3:] {
			n := int(int8(told[1]))
			if n == 127 {
				n = math.MaxInt
			}
			both(t, s, m, call{kind: told[0], n: n, b: told[:int(told[2])%len(told)]})
		}
	})
}
