package store_test

import (
	"bytes"
	"math"
	"testing"

	"hindcast/api"
	"hindcast/store"
)

// made is a store with bytes that last, and loose ones behind them.
func made(t *testing.T, last, loose string) *store.Store {
	t.Helper()
	s, e := store.New([]byte(last))
	if e != api.OK || s == nil {
		t.Fatalf("S1: New of %d bytes: %v", len(last), e)
	}
	want(t, "S2: Append", s.Append([]byte(loose)), api.OK)
	return s
}

// full is a store that lacks so many bytes of the most that it may have, all of which last.
func full(t *testing.T, lacks int) *store.Store {
	t.Helper()
	s, e := store.New(make([]byte, api.MaxStore-lacks))
	if e != api.OK {
		t.Fatalf("S1: New of MaxStore - %d bytes: %v", lacks, e)
	}
	return s
}

func want(t *testing.T, what string, got, want api.Errno) {
	t.Helper()
	if got != want {
		t.Errorf("%s: %v, want %v", what, got, want)
	}
}

func wantState(t *testing.T, s *store.Store, size, lasts int, on bool) {
	t.Helper()
	if a, b, c := s.State(); a != size || b != lasts || c != on {
		t.Errorf("S5: State: %d, %d, %v, want %d, %d, %v", a, b, c, size, lasts, on)
	}
}

// wantOn holds a store whose power is on against the bytes that last and the loose ones.
func wantOn(t *testing.T, s *store.Store, last, loose string) {
	t.Helper()
	wantState(t, s, len(last)+len(loose), len(last), true)
	if b := s.Bytes(); string(b) != last+loose {
		t.Errorf("S3: Bytes: %q, want %q", b, last+loose)
	}
}

// wantOff holds a store whose power has failed against the bytes that it has, and brings the power back.
func wantOff(t *testing.T, s *store.Store, left string) {
	t.Helper()
	wantState(t, s, len(left), len(left), false)
	if b := s.Bytes(); b != nil {
		t.Errorf("S3: Bytes while the power is off: %q", b)
	}
	s.Restart()
	wantOn(t, s, left, "")
}

func TestNew(t *testing.T) {
	for _, b := range [][]byte{nil, {}, {0}, []byte("some bytes")} {
		s, e := store.New(b)
		want(t, "S1: New", e, api.OK)
		wantOn(t, s, string(b), "")
		want(t, "S1: Append behind New: no fuse is set", s.Append([]byte("more")), api.OK)
		wantOn(t, s, string(b), "more")
	}
}

func TestNewBounds(t *testing.T) {
	wantState(t, full(t, 1), api.MaxStore-1, api.MaxStore-1, true)
	wantState(t, full(t, 0), api.MaxStore, api.MaxStore, true)
	for _, more := range []int{1, 2, api.MaxStore} {
		if s, e := store.New(make([]byte, api.MaxStore+more)); s != nil || e != api.ErrArg {
			t.Errorf("S1: New of MaxStore + %d bytes: %v", more, e)
		}
	}
}

func TestAppendAndSync(t *testing.T) {
	s := made(t, "", "")
	want(t, "S2: Sync of nothing", s.Sync(), api.OK)
	wantOn(t, s, "", "")
	want(t, "S2: Append", s.Append([]byte("ab")), api.OK)
	wantOn(t, s, "", "ab")
	want(t, "S2: Append", s.Append([]byte("cde")), api.OK)
	wantOn(t, s, "", "abcde")
	want(t, "S2: Sync", s.Sync(), api.OK)
	wantOn(t, s, "abcde", "")
	want(t, "S2: Append of nothing", s.Append(nil), api.OK)
	wantOn(t, s, "abcde", "")
	want(t, "S2: Append", s.Append([]byte{0, 255}), api.OK)
	wantOn(t, s, "abcde", "\x00\xff")
	want(t, "S2: Sync", s.Sync(), api.OK)
	want(t, "S2: Sync once more", s.Sync(), api.OK)
	wantOn(t, s, "abcde\x00\xff", "")
}

func TestAppendBounds(t *testing.T) {
	s := full(t, 2)
	want(t, "S2: 3 where 2 are missing", s.Append([]byte("abc")), api.ErrFull)
	wantState(t, s, api.MaxStore-2, api.MaxStore-2, true)
	want(t, "S2: 2 where 2 are missing", s.Append([]byte("ab")), api.OK)
	wantState(t, s, api.MaxStore, api.MaxStore-2, true)
	if b := s.Bytes(); len(b) != api.MaxStore || !bytes.HasSuffix(b, []byte("\x00\x00ab")) {
		t.Errorf("S2: the last bytes of %d: %q", len(b), b[len(b)-4:])
	}
	want(t, "S2: nothing where none is missing", s.Append(nil), api.OK)
	want(t, "S2: 1 where none is missing", s.Append([]byte("c")), api.ErrFull)
	want(t, "S2: MaxStore + 1 where none is missing", s.Append(make([]byte, api.MaxStore+1)), api.ErrFull)
	wantState(t, s, api.MaxStore, api.MaxStore-2, true)
	want(t, "S2: Sync", s.Sync(), api.OK)
	wantState(t, s, api.MaxStore, api.MaxStore, true)

	s = made(t, "", "")
	want(t, "S2: MaxStore + 1 on nothing", s.Append(make([]byte, api.MaxStore+1)), api.ErrFull)
	wantOn(t, s, "", "")
	want(t, "S2: MaxStore on nothing", s.Append(make([]byte, api.MaxStore)), api.OK)
	wantState(t, s, api.MaxStore, 0, true)
}

// TestFullAheadOfTheFuse: S2, ErrFull whatever a fuse says; and a fuse stays as it was then.
func TestFullAheadOfTheFuse(t *testing.T) {
	for _, fuse := range []int{0, 1, 2, 3, math.MaxInt} {
		s := full(t, 1)
		want(t, "S4: Fuse", s.Fuse(fuse), api.OK)
		want(t, "S2: 2 where 1 is missing", s.Append([]byte("ab")), api.ErrFull)
		wantState(t, s, api.MaxStore-1, api.MaxStore-1, true)
		if e := s.Append([]byte("c")); (e == api.OK) != (fuse >= 1) {
			t.Errorf("S2: by a fuse of %d, behind an Append that was too much: %v", fuse, e)
		}
	}
}

func TestFuse(t *testing.T) {
	for _, row := range []struct {
		fuse  int
		added []string // the last one of which lets the power fail
		left  string
	}{
		{0, []string{"x"}, "lastloose"},
		{0, []string{"", "", "xyz"}, "lastloose"},
		{1, []string{"a", "", "x"}, "lastloosea"},
		{1, []string{"ax"}, "lastloosea"},
		{3, []string{"abcx"}, "lastlooseabc"},
		{3, []string{"abc", "x"}, "lastlooseabc"},
		{3, []string{"ab", "cx"}, "lastlooseabc"},
		{3, []string{"a", "b", "", "c", "", "xyz"}, "lastlooseabc"},
		{5, []string{"abcd", "ex"}, "lastlooseabcde"},
	} {
		s := made(t, "last", "loose")
		want(t, "S4: Fuse", s.Fuse(row.fuse), api.OK)
		wantOn(t, s, "last", "loose")
		end := len(row.added) - 1
		for _, b := range row.added[:end] {
			want(t, "S2: Append of not more than the fuse", s.Append([]byte(b)), api.OK)
		}
		want(t, "S2: Append of more than the fuse", s.Append([]byte(row.added[end])), api.ErrDead)
		wantOff(t, s, row.left)
		want(t, "S2: behind a power failure no fuse is set", s.Append([]byte("many more")), api.OK)
		wantOn(t, s, row.left, "many more")
	}
}

// TestFuseJustUsedUp: S2, a fuse of which nothing is left is still set.
func TestFuseJustUsedUp(t *testing.T) {
	s := made(t, "", "")
	want(t, "S4: Fuse", s.Fuse(3), api.OK)
	want(t, "S2: Append of as many as the fuse", s.Append([]byte("abc")), api.OK)
	wantOn(t, s, "", "abc")
	want(t, "S2: Sync", s.Sync(), api.OK)
	want(t, "S2: Append of nothing", s.Append(nil), api.OK)
	want(t, "S3: Cut", s.Cut(2), api.OK)
	wantOn(t, s, "ab", "")
	want(t, "S2: Append of one more", s.Append([]byte("d")), api.ErrDead)
	wantOff(t, s, "ab")
}

// TestFuseAnew: S4, the last one that was set counts, and one that may not be sets none.
func TestFuseAnew(t *testing.T) {
	s := made(t, "", "")
	for _, n := range []int{1, math.MaxInt, 2} {
		want(t, "S4: Fuse", s.Fuse(n), api.OK)
	}
	for _, n := range []int{-1, -2, math.MinInt} {
		want(t, "S4: Fuse below 0", s.Fuse(n), api.ErrArg)
	}
	want(t, "S2: Append of 2", s.Append([]byte("ab")), api.OK)
	want(t, "S4: Fuse", s.Fuse(1), api.OK)
	want(t, "S2: Append of 2", s.Append([]byte("cd")), api.ErrDead)
	wantOff(t, s, "abc")
	want(t, "S4: Fuse below 0", s.Fuse(-1), api.ErrArg)
	want(t, "S2: Append without a fuse", s.Append([]byte("de")), api.OK)
	wantOn(t, s, "abc", "de")
}

func TestCut(t *testing.T) {
	for n := range 8 {
		s := made(t, "abc", "defg")
		want(t, "S3: Cut", s.Cut(n), api.OK)
		last := "abc"[:min(n, 3)]
		loose := "defg"[:max(n, 3)-3]
		wantOn(t, s, last, loose)
		want(t, "S2: Append behind Cut", s.Append([]byte("Z")), api.OK)
		wantOn(t, s, last, loose+"Z")
		want(t, "S4: Crash", s.Crash(0, nil), api.OK)
		wantOff(t, s, last)
	}
}

func TestCutRefuses(t *testing.T) {
	s := made(t, "abc", "de")
	for _, n := range []int{-1, -2, math.MinInt, 6, 7, math.MaxInt} {
		want(t, "S3: Cut", s.Cut(n), api.ErrArg)
	}
	wantOn(t, s, "abc", "de")
	want(t, "S3: Cut at the end", s.Cut(5), api.OK)
	wantOn(t, s, "abc", "de")
	s = made(t, "", "")
	want(t, "S3: Cut of nothing", s.Cut(0), api.OK)
	want(t, "S3: Cut of nothing", s.Cut(1), api.ErrArg)
	wantOn(t, s, "", "")
}

// TestCutLastsAtOnce: S3, what was cut away comes back by no crash, and what stands in its place is loose.
func TestCutLastsAtOnce(t *testing.T) {
	s := made(t, "abcdef", "ghi")
	want(t, "S3: Cut", s.Cut(2), api.OK)
	want(t, "S4: Crash", s.Crash(100, nil), api.OK)
	wantOff(t, s, "ab")
	s = made(t, "abcdef", "ghi")
	want(t, "S3: Cut", s.Cut(2), api.OK)
	want(t, "S2: Append", s.Append([]byte("CDEF")), api.OK)
	want(t, "S4: Crash", s.Crash(1, nil), api.OK)
	wantOff(t, s, "abC")
}

// TestCutMakesRoom: S2 asks how many bytes there are, not how many there were.
func TestCutMakesRoom(t *testing.T) {
	s := full(t, 0)
	want(t, "S3: Cut", s.Cut(api.MaxStore+1), api.ErrArg)
	want(t, "S3: Cut", s.Cut(api.MaxStore-1), api.OK)
	want(t, "S2: Append", s.Append([]byte("ab")), api.ErrFull)
	want(t, "S2: Append", s.Append([]byte("a")), api.OK)
	wantState(t, s, api.MaxStore, api.MaxStore-1, true)
}

// TestNoFuseNeverFails: S2, without a fuse more bytes than a store holds may be added in all.
func TestNoFuseNeverFails(t *testing.T) {
	s := made(t, "", "")
	most := make([]byte, api.MaxStore)
	for range 3 {
		want(t, "S2: Append", s.Append(most), api.OK)
		want(t, "S3: Cut", s.Cut(0), api.OK)
	}
	want(t, "S2: Append", s.Append([]byte("abc")), api.OK)
	wantOn(t, s, "", "abc")
}

func TestCrash(t *testing.T) {
	for _, row := range []struct {
		last, loose string
		keep        int
		junk        string
		left        string
	}{
		{"", "", 0, "", ""},
		{"", "", 5, "", ""},
		{"", "", 5, "junk", "junk"},
		{"last", "", 0, "", "last"},
		{"last", "", 1, "x", "lastx"},
		{"last", "loose", 0, "", "last"},
		{"last", "loose", 0, "x", "lastx"},
		{"last", "loose", 2, "", "lastlo"},
		{"last", "loose", 2, "xy", "lastloxy"},
		{"last", "loose", 2, "longer than all that was there", "lastlolonger than all that was there"},
		{"last", "loose", 4, "", "lastloos"},
		{"last", "loose", 5, "", "lastloose"},
		{"last", "loose", 5, "x", "lastloosex"},
		{"last", "loose", 6, "", "lastloose"},
		{"last", "loose", 6, "x", "lastloosex"},
		{"last", "loose", api.MaxStore + 1, "x", "lastloosex"},
		{"last", "loose", math.MaxInt, "xy", "lastloosexy"},
		{"", "loose", 1, "", "l"},
	} {
		s := made(t, row.last, row.loose)
		want(t, "S4: Crash", s.Crash(row.keep, []byte(row.junk)), api.OK)
		wantOff(t, s, row.left)
		want(t, "S2: Append behind a crash", s.Append([]byte("new")), api.OK)
		wantOn(t, s, row.left, "new")
	}
}

func TestCrashRefuses(t *testing.T) {
	s := made(t, "last", "loose")
	tooMany := make([]byte, api.MaxStore+1)
	for _, keep := range []int{-1, -2, math.MinInt} {
		want(t, "S4: Crash that keeps less than nothing", s.Crash(keep, nil), api.ErrArg)
		want(t, "P2: ErrArg is named ahead of ErrFull", s.Crash(keep, tooMany), api.ErrArg)
	}
	want(t, "S4: Crash with too much junk", s.Crash(0, tooMany), api.ErrFull)
	wantOn(t, s, "last", "loose")
}

// TestCrashBounds: S4, the loose bytes that do not stay leave room, and a keep counts for no more than there are.
func TestCrashBounds(t *testing.T) {
	s := full(t, 3)
	want(t, "S2: Append", s.Append([]byte("ab")), api.OK)
	for _, row := range []struct{ keep, junk int }{{0, 4}, {1, 3}, {2, 2}, {3, 2}, {math.MaxInt, 2}} {
		want(t, "S4: Crash with a byte too many", s.Crash(row.keep, make([]byte, row.junk)), api.ErrFull)
	}
	wantState(t, s, api.MaxStore-1, api.MaxStore-3, true)
	want(t, "S4: Crash with just as many as go", s.Crash(math.MaxInt, []byte("x")), api.OK)
	wantState(t, s, api.MaxStore, api.MaxStore, false)
	s.Restart()
	if b := s.Bytes(); !bytes.HasSuffix(b, []byte("\x00abx")) {
		t.Errorf("S4: the last bytes of %d: %q", len(b), b[len(b)-4:])
	}
	want(t, "S4: Crash", s.Crash(0, []byte("x")), api.ErrFull)
	want(t, "S4: Crash", s.Crash(5, nil), api.OK)
	wantState(t, s, api.MaxStore, api.MaxStore, false)

	s = full(t, 3)
	want(t, "S2: Append", s.Append([]byte("abc")), api.OK)
	want(t, "S4: Crash that gives room to junk", s.Crash(1, []byte("xy")), api.OK)
	wantState(t, s, api.MaxStore, api.MaxStore, false)
}

// TestCrashTakesTheFuse: a crash of any kind leaves no fuse, and one that is refused leaves it.
func TestCrashTakesTheFuse(t *testing.T) {
	s := made(t, "", "")
	want(t, "S4: Fuse", s.Fuse(1), api.OK)
	want(t, "S4: Crash", s.Crash(0, nil), api.OK)
	wantOff(t, s, "")
	want(t, "S2: Append", s.Append([]byte("ab")), api.OK)
	want(t, "S4: Fuse", s.Fuse(1), api.OK)
	want(t, "S4: Crash", s.Crash(-1, nil), api.ErrArg)
	want(t, "S2: Append", s.Append([]byte("cd")), api.ErrDead)
	wantOff(t, s, "abc")
}

// TestJunkOnAFuse: junk is nothing that is added, so that no fuse counts it.
func TestJunkOnAFuse(t *testing.T) {
	s := made(t, "last", "loose")
	want(t, "S4: Fuse", s.Fuse(0), api.OK)
	want(t, "S4: Crash", s.Crash(1, []byte("junk")), api.OK)
	wantOff(t, s, "lastljunk")
}

func TestWhileThePowerIsOff(t *testing.T) {
	s := made(t, "abc", "def")
	want(t, "S4: Crash", s.Crash(1, []byte("xy")), api.OK)
	tooMany := make([]byte, api.MaxStore+1)
	for range 2 {
		want(t, "Append", s.Append([]byte("q")), api.ErrDead)
		want(t, "Append of nothing", s.Append(nil), api.ErrDead)
		want(t, "Append of too much", s.Append(tooMany), api.ErrDead)
		want(t, "Sync", s.Sync(), api.ErrDead)
		want(t, "Cut", s.Cut(0), api.ErrDead)
		want(t, "Cut below 0", s.Cut(-1), api.ErrDead)
		want(t, "Cut behind the end", s.Cut(7), api.ErrDead)
		want(t, "Fuse", s.Fuse(0), api.ErrDead)
		want(t, "Fuse below 0", s.Fuse(-1), api.ErrDead)
		want(t, "Crash", s.Crash(0, []byte("z")), api.ErrDead)
		want(t, "Crash that keeps less than nothing", s.Crash(-1, nil), api.ErrDead)
		want(t, "Crash with too much junk", s.Crash(0, tooMany), api.ErrDead)
		if b := s.Bytes(); b != nil {
			t.Errorf("S3: Bytes while the power is off: %q", b)
		}
		wantState(t, s, 6, 6, false)
	}
	wantOff(t, s, "abcdxy")
	want(t, "S2: Append: no fuse was set", s.Append([]byte("q")), api.OK)
	wantOn(t, s, "abcdxy", "q")
}

// TestRestartWhileOn: S4, no fuse is set, and nothing else is changed.
func TestRestartWhileOn(t *testing.T) {
	s := made(t, "last", "loose")
	want(t, "S4: Fuse", s.Fuse(1), api.OK)
	s.Restart()
	wantOn(t, s, "last", "loose")
	want(t, "S2: Append", s.Append([]byte("many")), api.OK)
	wantOn(t, s, "last", "loosemany")
	s.Restart()
	s.Restart()
	wantOn(t, s, "last", "loosemany")
	want(t, "S4: Crash", s.Crash(0, nil), api.OK)
	wantOff(t, s, "last")
}

func TestExamples(t *testing.T) {
	s := made(t, "ab", "cde")
	wantState(t, s, 5, 2, true)
	want(t, "S4: Crash", s.Crash(2, []byte("xy")), api.OK)
	wantOff(t, s, "abcdxy")

	s = made(t, "", "")
	want(t, "S4: Fuse", s.Fuse(2), api.OK)
	want(t, "S2: Append", s.Append([]byte("a")), api.OK)
	want(t, "S2: Append", s.Append([]byte("bcd")), api.ErrDead)
	wantOff(t, s, "ab")
	want(t, "S4: Fuse", s.Fuse(0), api.OK)
	want(t, "S2: Append", s.Append([]byte("")), api.OK)
	want(t, "S2: Append", s.Append([]byte("c")), api.ErrDead)
	wantOff(t, s, "ab")
}

// TestErrorsAreNumbers: P5, they are errors of their own numbers.
func TestErrorsAreNumbers(t *testing.T) {
	s := made(t, "", "")
	var e error = s.Cut(-1)
	if e != error(api.ErrArg) || e.Error() != "hindcast: error 1" {
		t.Errorf("P5: Cut below 0: %v", e)
	}
	s.Crash(0, nil)
	e = s.Sync()
	if e != error(api.ErrDead) || e.Error() != "hindcast: error 30" {
		t.Errorf("P5: Sync while the power is off: %v", e)
	}
}
