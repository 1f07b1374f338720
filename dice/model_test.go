package dice_test

import (
	"encoding/binary"
	"math/big"
	"math/rand"
	"slices"
	"testing"

	"hindcast/api"
	"hindcast/dice"
)

// model is dice as the chapter's words say them, in numbers without an end that are cut to 64 bits.
type model struct {
	state *big.Int
}

func hex(digits string) *big.Int {
	x, _ := new(big.Int).SetString(digits, 16)
	return x
}

// two64 is 2^64.
func two64() *big.Int { return hex("10000000000000000") }

// cut is a number's 64 bits, those of a number below 0 too.
func cut(x *big.Int) *big.Int { return new(big.Int).Mod(x, two64()) }

func bits(x int64) *big.Int { return cut(big.NewInt(x)) }

func withShifted(x *big.Int, by uint) *big.Int {
	return new(big.Int).Xor(x, new(big.Int).Rsh(x, by))
}

func times(x, y *big.Int) *big.Int { return cut(new(big.Int).Mul(x, y)) }

func plus(x, y *big.Int) *big.Int { return cut(new(big.Int).Add(x, y)) }

func less(x, y *big.Int) *big.Int { return new(big.Int).Sub(x, y) }

func rest(x, y *big.Int) *big.Int { return new(big.Int).Mod(x, y) }

// signed reads 64 bits with a sign.
func signed(x *big.Int) int64 { return int64(cut(x).Uint64()) }

func mixed(x *big.Int) *big.Int {
	x = plus(x, hex("9E3779B97F4A7C15"))
	x = times(withShifted(x, 30), hex("BF58476D1CE4E5B9"))
	x = times(withShifted(x, 27), hex("94D049BB133111EB"))
	return withShifted(x, 31)
}

func newModel(seed int64, frame, system, index int) *model {
	x := mixed(bits(seed))
	x = mixed(new(big.Int).Xor(x, bits(int64(frame))))
	x = mixed(new(big.Int).Xor(x, bits(int64(system))))
	x = mixed(new(big.Int).Xor(x, bits(int64(index))))
	return &model{state: x}
}

func (m *model) next() *big.Int {
	was := m.state
	m.state = plus(was, hex("9E3779B97F4A7C15"))
	return mixed(was)
}

func (m *model) below(n int64) int64 {
	if n < 1 {
		m.next()
		return 0
	}
	width, greatest := big.NewInt(n), less(two64(), big.NewInt(1))
	end := less(greatest, rest(greatest, width))
	for {
		if x := m.next(); x.Cmp(end) < 0 {
			return rest(x, width).Int64()
		}
	}
}

func (m *model) between(a, b int64) int64 {
	if b < a {
		return a
	}
	width := plus(less(big.NewInt(b), big.NewInt(a)), big.NewInt(1))
	switch {
	case width.Sign() == 0:
		return signed(m.next())
	case width.IsInt64():
		return signed(plus(big.NewInt(a), big.NewInt(m.below(width.Int64()))))
	}
	return signed(plus(big.NewInt(a), rest(m.next(), width)))
}

func (m *model) shuffle(n int) []int {
	if n < 1 || n > api.MaxShuffle {
		return nil
	}
	var order []int
	for i := range n {
		order = append(order, i)
	}
	for i := n - 1; i >= 1; i-- {
		j := int(m.below(int64(i + 1)))
		atI, atJ := order[i], order[j]
		order[i], order[j] = atJ, atI
	}
	return order
}

// call rolls dice and their model in one way, and tells whether they fall alike.
func call(t *testing.T, d *dice.Dice, m *model, way byte, a, b int64) {
	switch way % 5 {
	case 0:
		if x, want := d.Next(), m.next().Uint64(); x != want {
			t.Fatalf("D2: Next: %x, want %x", x, want)
		}
	case 1:
		if x, want := d.Below(a), m.below(a); x != want {
			t.Fatalf("D3: Below(%d): %d, want %d", a, x, want)
		}
	case 2:
		if x, want := d.Between(a, b), m.between(a, b); x != want || b >= a && (x < a || x > b) {
			t.Fatalf("D3: Between(%d, %d): %d, want %d", a, b, x, want)
		}
	case 3:
		n := int(a % 1100)
		if x, want := d.Shuffle(n), m.shuffle(n); !slices.Equal(x, want) {
			t.Fatalf("D4: Shuffle(%d): %v, want %v", n, x, want)
		}
	case 4:
		if x, want := dice.Mix(uint64(a)), mixed(bits(a)).Uint64(); x != want {
			t.Fatalf("D1: Mix(%x): %x, want %x", uint64(a), x, want)
		}
	}
}

// someNumber is a number of any size, often near an edge.
func someNumber(r *rand.Rand) int64 {
	x := int64(r.Uint64()) >> r.Intn(64)
	if r.Intn(3) == 0 {
		x = -1<<63 + int64(r.Intn(5)) - 2 // round the edge on both sides
	}
	return x
}

// TestModel: D1 to D4, as the chapter's words have it, over many dice and calls.
func TestModel(t *testing.T) {
	r := rand.New(rand.NewSource(8))
	for range 400 {
		seed, frame, system, index := someNumber(r), int(someNumber(r)), int(someNumber(r)), int(someNumber(r))
		d, m := dice.New(seed, frame, system, index), newModel(seed, frame, system, index)
		for range 60 {
			way := byte(r.Intn(5))
			if way == 3 && r.Intn(10) > 0 { // a shuffle takes long
				way = 2
			}
			call(t, d, m, way, someNumber(r), someNumber(r))
		}
		call(t, d, m, 0, 0, 0)
	}
}

// FuzzCalls: D1 to D4, of any four numbers, in any order of calls.
func FuzzCalls(f *testing.F) {
	f.Add(int64(0), 0, 0, 0, []byte{0, 0})
	f.Add(int64(-1), 1, 2, 3, []byte("\x02\x00\x00\x00\x00\x00\x00\x00\x80\xff\xff\xff\xff\xff\xff\xff\x7f\x03\x09"))
	f.Fuzz(func(t *testing.T, seed int64, frame, system, index int, calls []byte) {
		d, m := dice.New(seed, frame, system, index), newModel(seed, frame, system, index)
		for range min(50, (len(calls)+16)/17) {
			var one [17]byte
			calls = calls[copy(one[:], calls):]
			call(t, d, m, one[0], int64(binary.LittleEndian.Uint64(one[1:])), int64(binary.LittleEndian.Uint64(one[9:])))
		}
		call(t, d, m, 0, 0, 0)
	})
}
