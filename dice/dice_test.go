package dice_test

import (
	"math"
	"slices"
	"testing"

	"hindcast/api"
	"hindcast/dice"
)

// stride is what a state has more behind each roll.
const stride = 0x9E3779B97F4A7C15

// inverse is what an odd number is multiplied by to come to 1.
func inverse(odd uint64) uint64 {
	x := odd
	for range 6 {
		x *= 2 - odd*x
	}
	return x
}

// unmix is the number that Mix makes x of.
func unmix(x uint64) uint64 {
	x ^= x>>31 ^ x>>62
	x *= inverse(0x94D049BB133111EB)
	x ^= x>>27 ^ x>>54
	x *= inverse(0xBF58476D1CE4E5B9)
	x ^= x>>30 ^ x>>60
	return x - stride
}

// ofState makes dice of that state: the seed is found by going back through New.
func ofState(state uint64) *dice.Dice {
	seed := state
	for range 4 {
		seed = unmix(seed)
	}
	return dice.New(int64(seed), 0, 0, 0)
}

// wantRolled: the dice, which had this state, have been rolled so often since.
func wantRolled(t *testing.T, promise string, d *dice.Dice, state uint64, rolls int) {
	t.Helper()
	if x, want := d.Next(), dice.Mix(state+uint64(rolls)*stride); x != want {
		was := unmix(x) - state
		t.Errorf("%s: dice of the state %x were not rolled %d times, but %d", promise, state, rolls, was*inverse(stride))
	}
}

// end is the greatest multiple of n that is not above 2^64 - 1.
func end(n int64) uint64 { return math.MaxUint64 / uint64(n) * uint64(n) }

// kept tells how often dice of a state are rolled until a number is below that of n, and which it is.
func kept(state uint64, n int64) (rolls int, x uint64) {
	for {
		x = dice.Mix(state + uint64(rolls)*stride)
		rolls++
		if x < end(n) {
			return rolls, x
		}
	}
}

func TestExamples(t *testing.T) {
	if x, y := dice.Mix(0), dice.Mix(1); x != 0xE220A8397B1DCDAF || y != 0x910A2DEC89025CC1 {
		t.Errorf("D1: Mix(0), Mix(1): %X, %X", x, y)
	}
	d := ofState(0)
	for _, want := range []uint64{0xE220A8397B1DCDAF, 0x6E789E6AA1B965F4, 0x06C45D188009454F} {
		if x := d.Next(); x != want {
			t.Errorf("D2: Next: %X, want %X", x, want)
		}
	}
	for _, n := range []int64{1, 0, -7} {
		d = ofState(0)
		if x := d.Below(n); x != 0 {
			t.Errorf("D3: Below(%d): %d", n, x)
		}
		wantRolled(t, "D3", d, 0, 1)
	}
	d = ofState(0)
	if x := d.Between(5, 5); x != 5 {
		t.Errorf("D3: Between(5, 5): %d", x)
	}
	wantRolled(t, "D3", d, 0, 1)
	d = ofState(0)
	if x := d.Between(5, 4); x != 5 {
		t.Errorf("D3: Between(5, 4): %d", x)
	}
	wantRolled(t, "D3", d, 0, 0)
}

func TestMix(t *testing.T) {
	for _, c := range [][2]uint64{
		{0, 0xe220a8397b1dcdaf}, {1, 0x910a2dec89025cc1}, {2, 0x975835de1c9756ce}, {1234567, 0x599ed017fb08fc85},
		{1 << 63, 0x481ec0a212a9f3db}, {math.MaxUint64, 0xe4d971771b652c20}, {stride, 0x6e789e6aa1b965f4}, {1<<64 - stride, 0},
	} {
		if x := dice.Mix(c[0]); x != c[1] {
			t.Errorf("D1: Mix(%x): %x, want %x", c[0], x, c[1])
		}
	}
}

// TestMixLosesNothing: each step of Mix can be gone back, at each bit.
func TestMixLosesNothing(t *testing.T) {
	for i := range 64 {
		for _, x := range []uint64{1 << i, 1<<i - 1, math.MaxUint64 << i, 0x0123456789ABCDEF << i} {
			if y := unmix(dice.Mix(x)); y != x {
				t.Errorf("D1: Mix(%x) comes from %x", x, y)
			}
		}
	}
}

func TestNew(t *testing.T) {
	for _, c := range []struct {
		seed                 int64
		frame, system, index int
		want                 [3]uint64
	}{
		{0, 0, 0, 0, [3]uint64{0x78ae5a9a6b5fd45e, 0xb9895a2b68592df1, 0x4d936ece81fe4f66}},
		{1, 2, 3, 4, [3]uint64{0x68055585a968b899, 0x9a72e9c958bd6b24, 0x6da2f6aa5f72f884}},
		{4, 3, 2, 1, [3]uint64{0xb6dc838f899896b0, 0x72a26f9717590cc6, 0x4e224572ecd39029}},
		{1, 2, 4, 3, [3]uint64{0x68fde65231bb2404, 0x105ab87289799b24, 0x183e32547e2736dc}},
		{7, 1, 0, 3, [3]uint64{0x6b055c42bf3b8fd, 0xfb345861576c7873, 0xf07f9d188ec681cc}},
		{0, -1, 0, 0, [3]uint64{0x16f3dc82f2b74b2f, 0xcc1e92cd14daf237, 0x355133e37576e641}},
		{-1, -2, -3, -4, [3]uint64{0x404ce0f4f91f6b4f, 0x650ca58cf5badcb, 0xa1fea32d11a0f5fa}},
		{math.MinInt64, 0, 0, 0, [3]uint64{0x314db3604a00ad7c, 0xb01875e85429d48d, 0x74959fee9925fd8f}},
		{math.MaxInt64, 5000, 15, 199, [3]uint64{0xc36a5e0dfd09d06, 0x16fd36a9a4de2af2, 0x73f0e922d1ae7b04}},
	} {
		d := dice.New(c.seed, c.frame, c.system, c.index)
		if got := [3]uint64{d.Next(), d.Next(), d.Next()}; got != c.want {
			t.Errorf("D1: New(%d, %d, %d, %d): %x, want %x", c.seed, c.frame, c.system, c.index, got, c.want)
		}
	}
}

// TestNewAtTheEnds: D1, all four numbers may be any.
func TestNewAtTheEnds(t *testing.T) {
	for _, c := range [][4]int{
		{math.MinInt, math.MinInt, math.MinInt, math.MinInt}, {math.MaxInt, math.MaxInt, math.MaxInt, math.MaxInt},
		{0, math.MinInt, 0, 0}, {0, 0, math.MinInt, 0}, {0, 0, 0, math.MinInt}, {0, math.MaxInt, 0, -1}, {-1, 0, math.MaxInt, 0},
	} {
		state := dice.Mix(uint64(c[0]))
		for _, n := range c[1:] {
			state = dice.Mix(state ^ uint64(n))
		}
		wantRolled(t, "D1", dice.New(int64(c[0]), c[1], c[2], c[3]), state, 0)
	}
}

// TestNewHangsOnAll: D1, dice that differ in one number of the four, or in their order, fall otherwise.
func TestNewHangsOnAll(t *testing.T) {
	seen := map[uint64][4]int{}
	for n := range 5 * 5 * 5 * 5 {
		c := [4]int{n%5 - 2, n/5%5 - 2, n/25%5 - 2, n/125 - 2}
		x := dice.New(int64(c[0]), c[1], c[2], c[3]).Next()
		if other, is := seen[x]; is {
			t.Errorf("D1: dice of %v and of %v fall alike", c, other)
		}
		seen[x] = c
	}
}

func TestNext(t *testing.T) {
	d := ofState(1234567)
	for i, want := range []uint64{6457827717110365317, 3203168211198807973, 9817491932198370423, 4593380528125082431, 16408922859458223821} {
		if x := d.Next(); x != want {
			t.Errorf("D2: the state 1234567: the number %d is %d, want %d", i, x, want)
		}
	}
}

// TestNextWrapsRound: D2, the state has more at all its bits, whatever it was.
func TestNextWrapsRound(t *testing.T) {
	for _, state := range []uint64{
		0, 1, math.MaxUint32, 1 << 32, 1<<63 - 1, 1 << 63, math.MaxUint64 - math.MaxUint32, math.MaxUint64,
		1<<64 - stride, 1<<64 - stride - 1, 1<<32 - stride&math.MaxUint32, 1<<32 - stride&math.MaxUint32 - 1,
	} {
		d := ofState(state)
		for i := range 100 {
			if x, want := d.Next(), dice.Mix(state+uint64(i)*stride); x != want {
				t.Fatalf("D2: the state %x: the number %d is %x, want %x", state, i, x, want)
			}
		}
	}
}

// widths are numbers for Below: small ones, those of which much is left and little, and powers of 2.
var widths = []int64{
	1, 2, 3, 5, 6, 7, 10, 100, 255, 256, 1000, 1 << 31, 1<<32 - 1, 1 << 32, 1<<32 + 1, 1 << 61, 3 << 61,
	math.MaxUint64/3 - 1, math.MaxUint64 / 3, math.MaxUint64/3 + 1, math.MaxUint64/4 + 1, math.MaxUint64/5 + 1,
	1<<62 - 1, 1 << 62, 1<<62 + 1, math.MaxInt64 - 1, math.MaxInt64,
}

func TestBelow(t *testing.T) {
	d := dice.New(1, 2, 3, 4)
	for i, want := range []int64{1, 0, 4, 1, 5, 1, 0, 0, 2, 1, 4, 1, 4, 0, 1, 1, 4, 3, 4, 4} {
		if x := d.Below(6); x != want {
			t.Errorf("D3: Below(6), the number %d: %d, want %d", i, x, want)
		}
	}
	d = dice.New(1, 2, 3, 4)
	for i, want := range []int64{
		1346576496152765251, 4980299988935906766, 1751233216730997550, 2290702377790878276,
		158924498010184434, 2328725250034462027, 2639388626523654652, 5022108478533134893,
	} {
		if x := d.Below(6148914691236517206); x != want {
			t.Errorf("D3: Below(6148914691236517206), the number %d: %d, want %d", i, x, want)
		}
	}
}

// TestBelowNothing: D3, with n below 1 it is 0, and one roll, whatever falls.
func TestBelowNothing(t *testing.T) {
	for _, n := range []int64{0, -1, -2, -7, -1 << 32, math.MinInt64 + 1, math.MinInt64} {
		for _, falls := range []uint64{0, 1, 1<<63 - 1, 1 << 63, math.MaxUint64 - 1, math.MaxUint64} {
			d := ofState(unmix(falls))
			if x := d.Below(n); x != 0 {
				t.Errorf("D3: Below(%d), where %x falls: %d", n, falls, x)
			}
			wantRolled(t, "D3", d, unmix(falls), 1)
		}
	}
}

// TestBelowKeeps: D3, each number below the greatest multiple is taken, the last one too.
func TestBelowKeeps(t *testing.T) {
	for _, n := range widths {
		for _, falls := range []uint64{0, 1, uint64(n) - 1, uint64(n), uint64(n) + 1, end(n) - uint64(n), end(n) - 2, end(n) - 1} {
			if falls >= end(n) {
				continue
			}
			d := ofState(unmix(falls))
			if x := d.Below(n); x != int64(falls%uint64(n)) {
				t.Errorf("D3: Below(%d), where %d falls: %d", n, falls, x)
			}
			wantRolled(t, "D3", d, unmix(falls), 1)
		}
	}
}

// TestBelowThrowsAway: D3, each number from the greatest multiple on is thrown away, the multiple itself and 2^64 - 1 too: the next one counts.
func TestBelowThrowsAway(t *testing.T) {
	for _, n := range widths {
		for _, falls := range []uint64{end(n), max(end(n), math.MaxUint64-1), math.MaxUint64} {
			state := unmix(falls)
			rolls, x := kept(state, n)
			if rolls < 2 {
				t.Fatalf("the test is wrong: %d is kept for %d", falls, n)
			}
			d := ofState(state)
			if got := d.Below(n); got != int64(x%uint64(n)) {
				t.Errorf("D3: Below(%d), where %d and then %d fall: %d", n, falls, x, got)
			}
			wantRolled(t, "D3", d, state, rolls)
		}
	}
}

// TestBelowThrowsAwayAgain: D3, as many are thrown away, one behind the other, as are too great.
func TestBelowThrowsAwayAgain(t *testing.T) {
	const n = math.MaxUint64/3 + 1 // one of three is thrown away
	most := 0
	for seed := range int64(3000) {
		state := seed * 977
		rolls, x := kept(uint64(state), n)
		most = max(most, rolls)
		d := ofState(uint64(state))
		if got := d.Below(n); got != int64(x%n) {
			t.Fatalf("D3: Below(%d), the state %x: %d, want %d", int64(n), state, got, x%n)
		}
		wantRolled(t, "D3", d, uint64(state), rolls)
	}
	if most < 5 {
		t.Errorf("the test is wrong: at most %d rolls", most)
	}
}

// TestBelowRange: what follows, all of 0 to n - 1 and nothing else, each as often as chance has it.
func TestBelowRange(t *testing.T) {
	d := dice.New(42, 0, 0, 0)
	for _, n := range []int64{1, 2, 3, 6, 10, 17} {
		fell := map[int64]int{}
		for range 1000 * n {
			fell[d.Below(n)]++
		}
		for x, times := range fell {
			if x < 0 || x >= n || times < 800 && n > 1 || times > 1200 && n > 1 {
				t.Errorf("D3: Below(%d): %d fell %d times of %d", n, x, times, 1000*n)
			}
		}
		if len(fell) != int(n) {
			t.Errorf("D3: Below(%d): %d numbers fell", n, len(fell))
		}
	}
	for _, n := range widths {
		for range 100 {
			if x := d.Below(n); x < 0 || x >= n {
				t.Errorf("D3: Below(%d): %d", n, x)
			}
		}
	}
}

// TestBetweenNothing: D3, with b below a it is a, and no roll.
func TestBetweenNothing(t *testing.T) {
	for _, c := range [][2]int64{
		{5, 4}, {0, -1}, {1, 0}, {-3, -4}, {7, -7}, {math.MaxInt64, math.MinInt64}, {math.MaxInt64, math.MaxInt64 - 1},
		{math.MinInt64 + 1, math.MinInt64}, {0, math.MinInt64}, {math.MaxInt64, 0}, {1 << 62, -1 << 62},
	} {
		d := ofState(99)
		if x := d.Between(c[0], c[1]); x != c[0] {
			t.Errorf("D3: Between(%d, %d): %d", c[0], c[1], x)
		}
		wantRolled(t, "D3", d, 99, 0)
	}
}

// TestBetween: D3, a and Below of how many there are, where an int64 counts them.
func TestBetween(t *testing.T) {
	d := dice.New(1, 2, 3, 4)
	for i, want := range []int64{7, 22, 6, -31, -49, -23, 26, -16} {
		if x := d.Between(-50, 49); x != want {
			t.Errorf("D3: Between(-50, 49), the number %d: %d, want %d", i, x, want)
		}
	}
	for _, c := range [][2]int64{
		{5, 5}, {0, 0}, {-1, -1}, {math.MinInt64, math.MinInt64}, {math.MaxInt64, math.MaxInt64}, {-3, 3}, {0, 1}, {-1, 0},
		{math.MinInt64, math.MinInt64 + 1}, {math.MaxInt64 - 1, math.MaxInt64}, {1, math.MaxInt64}, {0, math.MaxInt64 - 1},
		{math.MinInt64, -2}, {math.MinInt64 + 1, -1}, {-1 << 62, 1<<62 - 2}, {math.MinInt64 / 3, math.MaxInt64 / 3}, {1 << 62, 1<<62 + 9},
	} {
		for state := range uint64(40) {
			d, beside := ofState(state), ofState(state)
			x, want := d.Between(c[0], c[1]), c[0]+beside.Below(c[1]-c[0]+1)
			if x != want || x < c[0] || x > c[1] {
				t.Errorf("D3: Between(%d, %d), the state %d: %d, want %d", c[0], c[1], state, x, want)
			}
			if d.Next() != beside.Next() {
				t.Errorf("D3: Between(%d, %d), the state %d: rolls otherwise than Below", c[0], c[1], state)
			}
		}
	}
}

// TestBetweenThrowsAway: D3, as Below does, even where one number alone can be meant.
func TestBetweenThrowsAway(t *testing.T) {
	for _, c := range [][2]int64{{5, 5}, {-3, 2}, {1, math.MaxInt64}} {
		n := c[1] - c[0] + 1
		state := unmix(math.MaxUint64)
		rolls, x := kept(state, n)
		d := ofState(state)
		if got := d.Between(c[0], c[1]); rolls < 2 || got != c[0]+int64(x%uint64(n)) {
			t.Errorf("D3: Between(%d, %d), where the greatest number falls: %d", c[0], c[1], got)
		}
		wantRolled(t, "D3", d, state, rolls)
	}
}

// TestBetweenFar: D3, where an int64 does not count them, one roll is enough, whatever falls.
func TestBetweenFar(t *testing.T) {
	for _, c := range []struct {
		a, b  int64
		falls uint64
		want  int64
	}{
		{math.MinInt64, math.MaxInt64, 0, 0}, {math.MinInt64, math.MaxInt64, 1, 1}, {math.MinInt64, math.MaxInt64, math.MaxUint64, -1},
		{math.MinInt64, math.MaxInt64, 1 << 63, math.MinInt64}, {math.MinInt64, math.MaxInt64, 1<<63 - 1, math.MaxInt64},
		{math.MinInt64, math.MaxInt64 - 1, 0, math.MinInt64}, {math.MinInt64, math.MaxInt64 - 1, math.MaxUint64 - 1, math.MaxInt64 - 1},
		{math.MinInt64, math.MaxInt64 - 1, math.MaxUint64, math.MinInt64},
		{math.MinInt64 + 1, math.MaxInt64, math.MaxUint64 - 1, math.MaxInt64}, {math.MinInt64 + 1, math.MaxInt64, math.MaxUint64, math.MinInt64 + 1},
		{math.MinInt64, 0, 1 << 63, 0}, {math.MinInt64, 0, 1<<63 + 1, math.MinInt64}, {math.MinInt64, 0, math.MaxUint64, -2},
		{0, math.MaxInt64, 0, 0}, {0, math.MaxInt64, 1<<63 - 1, math.MaxInt64}, {0, math.MaxInt64, 1 << 63, 0}, {0, math.MaxInt64, math.MaxUint64, math.MaxInt64},
		{-1, math.MaxInt64, 0, -1}, {-1, math.MaxInt64, 1 << 63, math.MaxInt64}, {-1, math.MaxInt64, 1<<63 + 1, -1},
		{math.MinInt64, -1, 1 << 63, math.MinInt64}, {math.MinInt64, -1, math.MaxUint64, -1},
		{-1 << 62, 1 << 62, 1<<63 + 1, -1 << 62}, {-1 << 62, 1 << 62, 1 << 63, 1 << 62}, {-1 << 62, 1<<62 - 1, 1 << 63, -1 << 62},
	} {
		d := ofState(unmix(c.falls))
		if x := d.Between(c.a, c.b); x != c.want {
			t.Errorf("D3: Between(%d, %d), where %x falls: %d, want %d", c.a, c.b, c.falls, x, c.want)
		}
		wantRolled(t, "D3", d, unmix(c.falls), 1)
	}
}

// TestBetweenRange: what follows, all of a to b and nothing else.
func TestBetweenRange(t *testing.T) {
	d := dice.New(43, 0, 0, 0)
	for _, c := range [][2]int64{{-3, 3}, {10, 12}, {-9, -5}, {math.MaxInt64 - 4, math.MaxInt64}, {math.MinInt64, math.MinInt64 + 4}} {
		fell := map[int64]int{}
		for range 500 {
			fell[d.Between(c[0], c[1])]++
		}
		for x := range fell {
			if x < c[0] || x > c[1] {
				t.Errorf("D3: Between(%d, %d): %d", c[0], c[1], x)
			}
		}
		if len(fell) != int(c[1]-c[0]+1) {
			t.Errorf("D3: Between(%d, %d): %d numbers fell", c[0], c[1], len(fell))
		}
	}
}

func TestShuffle(t *testing.T) {
	d := dice.New(1, 2, 3, 4)
	if l := d.Shuffle(10); !slices.Equal(l, []int{1, 9, 6, 8, 2, 5, 3, 4, 0, 7}) {
		t.Errorf("D4: Shuffle(10): %v", l)
	}
	if l := d.Shuffle(7); !slices.Equal(l, []int{5, 1, 6, 2, 3, 4, 0}) {
		t.Errorf("D4: Shuffle(7) behind it: %v", l)
	}
}

// TestShuffleNothing: D4, with too few and too many there is nothing, and no roll.
func TestShuffleNothing(t *testing.T) {
	for _, n := range []int{0, -1, -1000, math.MinInt32, math.MinInt, api.MaxShuffle + 1, api.MaxShuffle + 2, math.MaxInt32, math.MaxInt} {
		d := ofState(5)
		if l := d.Shuffle(n); len(l) != 0 {
			t.Errorf("D4: Shuffle(%d): %d numbers", n, len(l))
		}
		wantRolled(t, "D4", d, 5, 0)
	}
}

// TestShuffleRolls: D4, one of n rolls n - 1 times, if nothing is thrown away, and has each number once.
func TestShuffleRolls(t *testing.T) {
	for _, n := range []int{1, 2, 3, 4, 10, 52, api.MaxShuffle - 1, api.MaxShuffle} {
		for state := range uint64(20) {
			d := ofState(state)
			l := d.Shuffle(n)
			slices.Sort(l)
			for i, x := range l {
				if i != x {
					t.Fatalf("D4: Shuffle(%d), the state %d: not each number once: %v", n, state, l)
				}
			}
			if len(l) != n {
				t.Errorf("D4: Shuffle(%d): %d numbers", n, len(l))
			}
			wantRolled(t, "D4", d, state, n-1)
		}
	}
}

// TestShuffleThrowsAway: D4, its numbers are those of Below, which throws some away.
func TestShuffleThrowsAway(t *testing.T) {
	state := unmix(math.MaxUint64)
	d, beside := ofState(state), ofState(state)
	want := []int{0, 1, 2}
	for i := 2; i >= 1; i-- {
		j := beside.Below(int64(i + 1))
		want[i], want[j] = want[j], want[i]
	}
	if l := d.Shuffle(3); !slices.Equal(l, want) {
		t.Errorf("D4: Shuffle(3), where the greatest number falls: %v, want %v", l, want)
	}
	wantRolled(t, "D4", d, state, 3)
}

// TestShuffleAllOrders: what follows, all orders fall, each as often as chance has it.
func TestShuffleAllOrders(t *testing.T) {
	d := dice.New(44, 0, 0, 0)
	fell := map[[4]int]int{}
	for range 24 * 500 {
		fell[[4]int(d.Shuffle(4))]++
	}
	for order, times := range fell {
		if times < 380 || times > 620 {
			t.Errorf("D4: Shuffle(4): %v fell %d times of 12000", order, times)
		}
	}
	if len(fell) != 24 {
		t.Errorf("D4: Shuffle(4): %d orders fell", len(fell))
	}
}
