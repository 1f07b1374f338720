package pack_test

import (
	"bytes"
	"encoding/binary"
	"hash/crc32"
	"math"
	"math/rand"
	"strings"
	"testing"

	"hindcast/pack"
)

// edgeNumbers are those beside which the number of bytes changes, and the greatest.
func edgeNumbers() []uint64 {
	l := []uint64{0, 1, 2, 300, math.MaxUint64}
	for bit := 7; bit < 64; bit += 7 {
		edge := uint64(1) << bit
		l = append(l, edge-1, edge, edge+1)
	}
	return l
}

func edgeInts() []int64 {
	l := []int64{0, 1, -1, math.MaxInt64, math.MinInt64, math.MinInt64 + 1}
	for bit := 6; bit < 63; bit += 7 {
		edge := int64(1) << bit
		l = append(l, edge-1, edge, -edge, -edge-1)
	}
	return l
}

// wrongNumbers are bytes that begin with no number.
var wrongNumbers = [][]byte{
	nil,
	{},
	{0x80},
	{0xac},
	{0x80, 0x00},
	{0xff, 0x00},
	{0x80, 0x80, 0x00},
	{0x80, 0x80, 0x80},
	bytes.Repeat([]byte{0x80}, 9),
	bytes.Repeat([]byte{0xff}, 10),
	append(bytes.Repeat([]byte{0x80}, 9), 0x00),
	append(bytes.Repeat([]byte{0xff}, 9), 0x02),
	append(bytes.Repeat([]byte{0xff}, 9), 0x03),
	append(bytes.Repeat([]byte{0xff}, 9), 0x7f),
	append(bytes.Repeat([]byte{0xff}, 9), 0x81, 0x00),
	append(bytes.Repeat([]byte{0x80}, 10), 0x01),
	append(bytes.Repeat([]byte{0xff}, 100), 0x01),
}

func checkNumber(t *testing.T, n uint64) {
	t.Helper()
	want := binary.AppendUvarint(nil, n)
	got := pack.Put(nil, n)
	if !bytes.Equal(got, want) {
		t.Fatalf("A1: Put(%d) = %x, want %x", n, got, want)
	}
	for _, behind := range []string{"", "\x00", "\x80", "\xff\xff"} {
		back, size := pack.Get([]byte(string(got) + behind))
		if back != n || size != len(want) {
			t.Fatalf("A1: Get(%x, and %x behind) = %d, %d, want %d, %d", got, behind, back, size, n, len(want))
		}
	}
	for cut := range got {
		if back, size := pack.Get(got[:cut]); back != 0 || size != 0 {
			t.Fatalf("A1: Get(%x) = %d, %d, want 0, 0", got[:cut], back, size)
		}
	}
}

func TestNumbers(t *testing.T) {
	for _, n := range edgeNumbers() {
		checkNumber(t, n)
	}
	r := rand.New(rand.NewSource(1))
	for range 2000 {
		checkNumber(t, r.Uint64()>>r.Intn(64))
	}
	if got := pack.Put([]byte{1, 2}, 300); !bytes.Equal(got, []byte{1, 2, 0xac, 2}) {
		t.Errorf("A1: Put of 1, 2 with 300 = %x", got)
	}
	if got := pack.Put(nil, math.MaxUint64); len(got) != 10 {
		t.Errorf("A1: the greatest number has %d bytes", len(got))
	}
}

func TestWrongNumbers(t *testing.T) {
	for _, b := range wrongNumbers {
		if n, size := pack.Get(b); n != 0 || size != 0 {
			t.Errorf("A1: Get(%x) = %d, %d, want 0, 0", b, n, size)
		}
		if n, size := pack.GetInt(b); n != 0 || size != 0 {
			t.Errorf("A2: GetInt(%x) = %d, %d, want 0, 0", b, n, size)
		}
		if s, size := pack.GetText(b); s != "" || size != 0 {
			t.Errorf("A3: GetText(%x) = %q, %d, want nothing, 0", b, s, size)
		}
		if l, size := pack.GetRow(b, 100); l != nil || size != 0 {
			t.Errorf("A4: GetRow(%x) = %v, %d, want nil, 0", b, l, size)
		}
	}
}

func checkInt(t *testing.T, n int64) {
	t.Helper()
	want := binary.AppendVarint(nil, n)
	got := pack.PutInt([]byte{9}, n)
	if !bytes.Equal(got, append([]byte{9}, want...)) {
		t.Fatalf("A2: PutInt(09, %d) = %x, want %x behind 09", n, got, want)
	}
	back, size := pack.GetInt(append(got[1:], 0x80))
	if back != n || size != len(want) {
		t.Fatalf("A2: GetInt(%x) = %d, %d, want %d, %d", want, back, size, n, len(want))
	}
}

func TestInts(t *testing.T) {
	for _, n := range edgeInts() {
		checkInt(t, n)
	}
	r := rand.New(rand.NewSource(2))
	for range 2000 {
		checkInt(t, int64(r.Uint64())>>r.Intn(64))
	}
	for _, c := range []struct {
		n    int64
		want []byte
	}{
		{0, []byte{0}},
		{-1, []byte{1}},
		{1, []byte{2}},
		{-2, []byte{3}},
		{63, []byte{0x7e}},
		{-64, []byte{0x7f}},
		{64, []byte{0x80, 1}},
		{math.MinInt64, append(bytes.Repeat([]byte{0xff}, 9), 1)},
	} {
		if got := pack.PutInt(nil, c.n); !bytes.Equal(got, c.want) {
			t.Errorf("A2: PutInt(%d) = %x, want %x", c.n, got, c.want)
		}
	}
}

func TestTexts(t *testing.T) {
	for _, s := range []string{"", "a", "ab", "\x00", "\xff\xfe", "ümläut", strings.Repeat("x", 127), strings.Repeat("y", 128), strings.Repeat("z", 20000)} {
		want := string(binary.AppendUvarint(nil, uint64(len(s)))) + s
		got := pack.PutText([]byte("ab"), s)
		if string(got) != "ab"+want {
			t.Fatalf("A3: PutText of a text of %d bytes: %d bytes, or others than should be", len(s), len(got))
		}
		for _, behind := range []string{"", "\x00", "\xff\xff\xff"} {
			back, size := pack.GetText([]byte(want + behind))
			if back != s || size != len(want) {
				t.Fatalf("A3: GetText of a text of %d bytes: %d bytes, size %d", len(s), len(back), size)
			}
		}
		if back, size := pack.GetText([]byte(want[:len(want)-1])); back != "" || size != 0 {
			t.Fatalf("A3: GetText of a text of %d bytes without its last byte = %q, %d", len(s), back, size)
		}
	}
}

func TestWrongTexts(t *testing.T) {
	for _, b := range [][]byte{
		{5, 'a'},
		{1},
		{0x81, 0, 'a'},
		binary.AppendUvarint(nil, math.MaxUint64),
		append(binary.AppendUvarint(nil, math.MaxUint64), "abc"...),
		append(binary.AppendUvarint(nil, 1<<63), "abc"...),
		append(binary.AppendUvarint(nil, 1<<63-1), "abc"...),
		append(binary.AppendUvarint(nil, 1<<32), "abc"...),
	} {
		if s, size := pack.GetText(b); s != "" || size != 0 {
			t.Errorf("A3: GetText(%x) = %q, %d, want nothing, 0", b, s, size)
		}
	}
	if s, size := pack.GetText([]byte{0}); s != "" || size != 1 {
		t.Errorf("A3: GetText(00) = %q, %d, want nothing, 1", s, size)
	}
}

func TestSums(t *testing.T) {
	table := crc32.MakeTable(crc32.Castagnoli)
	r := rand.New(rand.NewSource(3))
	for n := range 300 {
		b := make([]byte, n)
		r.Read(b)
		if got, want := pack.Sum(b), crc32.Checksum(b, table); got != want {
			t.Fatalf("A5: Sum(%x) = %x, want %x", b, got, want)
		}
	}
	for x := range 256 {
		b := []byte{byte(x)}
		if got, want := pack.Sum(b), crc32.Checksum(b, table); got != want {
			t.Fatalf("A5: Sum(%x) = %x, want %x", b, got, want)
		}
	}
	if got := pack.Sum([]byte("123456789")); got != 0xE3069283 {
		t.Errorf("A5: Sum of 123456789 = %X", got)
	}
	if pack.Sum(nil) != 0 || pack.Sum([]byte{}) != 0 {
		t.Errorf("A5: Sum of nothing is not 0")
	}
}

// TestTurnedBits turns bits that stand together, up to 32 of them: the sum must be another one.
func TestTurnedBits(t *testing.T) {
	r := rand.New(rand.NewSource(4))
	for range 20000 {
		b := make([]byte, 1+r.Intn(40))
		r.Read(b)
		first := r.Intn(8 * len(b))
		width := 1 + r.Intn(min(32, 8*len(b)-first))
		spoilt := bytes.Clone(b)
		for i := range width {
			inside := i > 0 && i < width-1
			if inside && r.Intn(2) == 0 {
				continue
			}
			spoilt[(first+i)/8] ^= 1 << ((first + i) % 8)
		}
		if pack.Sum(b) == pack.Sum(spoilt) {
			t.Fatalf("A5: %x and %x have one sum", b, spoilt)
		}
	}
}
