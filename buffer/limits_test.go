package buffer_test

import (
	"bytes"
	"testing"

	"hindcast/api"
	"hindcast/buffer"
)

// full is a buffer of as many commands as may be, of all sorts of turns: the command i is mark(i).
func full(t *testing.T, system func(i int) int, index func(i int) int) *buffer.Buffer {
	t.Helper()
	b := buffer.New()
	for i := range api.MaxColumn {
		if bad := b.Put(system(i), e(index(i), 1), mark(i)); bad != api.OK {
			t.Fatalf("B2: the command %d: %v", i+1, bad)
		}
	}
	return b
}

func none(int) int { return 0 }

func up(i int) int { return i }

func down(i int) int { return -i }

// TestFull: B2, 100000 commands go, of one turn or of many, and not one more of whatever turn: the buffer stays as it is.
func TestFull(t *testing.T) {
	for _, c := range []struct {
		says          string
		system, index func(i int) int
		first, last   int
	}{
		{"one turn", none, none, 0, 99999},
		{"a system each", down, none, 99999, 0},
		{"an Index each", none, down, 99999, 0},
		{"turns that come again", func(i int) int { return i % 7 }, func(i int) int { return i % 11 }, 0, 99945},
		{"by rising turns", up, up, 0, 99999},
	} {
		b := full(t, c.system, c.index)
		for range 2 {
			for _, x := range []wish{{0, e(0, 1), spawn()}, {5, e(5, 1), mark(0)}, {-1000000, e(3, 1), spawn(p(3))}} {
				if bad := b.Put(x.system, x.e, x.c); bad != api.ErrFull {
					t.Errorf("B2: %s: one more: %v, want ErrFull", c.says, bad)
				}
			}
			all := b.All()
			if len(all) != api.MaxColumn || all[0].Op != 100+c.first || all[api.MaxColumn-1].Op != 100+c.last {
				t.Fatalf("B3: %s: %d commands, from %v to %v", c.says, len(all), all[0], all[len(all)-1])
			}
			wantApply(t, b, made(t), api.MaxColumn)
		}
	}
}

// TestNearlyFull: B2, the last command that goes is there, and done in its turn.
func TestNearlyFull(t *testing.T) {
	b := buffer.New()
	for i := range api.MaxColumn - 1 {
		b.Put(i, e(0, 1), mark(i))
	}
	if bad := b.Put(-1, e(0, 1), spawn(p(2, 5))); bad != api.OK {
		t.Errorf("B2: the command %d: %v", api.MaxColumn, bad)
	}
	if bad := b.Put(-2, e(0, 1), spawn(p(2, 6))); bad != api.ErrFull {
		t.Errorf("B2: the command %d: %v, want ErrFull", api.MaxColumn+1, bad)
	}
	w := made(t)
	wantApply(t, b, w, api.MaxColumn-1, e(0, 1))
	wantWorld(t, w, r(0, 1, p(2, 5)))
}

// TestFirstOnes: B4, the first 2000 in the order are done, whether they are refused or not; those behind them are counted, and change nothing.
func TestFirstOnes(t *testing.T) {
	for _, c := range []struct {
		commands, at int
		done         bool
	}{
		{1, 0, true}, {1999, 1998, true}, {2000, 1999, true}, {2001, 1999, true}, {2001, 2000, false}, {2002, 2001, false}, {5000, 1999, true}, {5000, 2000, false}, {5000, 4999, false}, {api.MaxColumn, 1999, true}, {api.MaxColumn, 2000, false},
	} {
		for _, rising := range []bool{true, false} {
			b := buffer.New()
			for i := range c.commands {
				place := i // in the order
				if !rising {
					place = c.commands - 1 - i
				}
				command := despawn(e(7, 7))
				if place == c.at {
					command = add(e(0, 1), p(3))
				}
				b.Put(place/10, e(place%10, 1), command)
			}
			w := made(t, r(0, 1))
			was := w.Snapshot()
			want := c.commands
			if c.done {
				want--
			}
			wantApply(t, b, w, want)
			if bytes.Equal(w.Snapshot(), was) == c.done {
				t.Errorf("B4: of %d commands the one with %d ahead of it: done is %v, want %v", c.commands, c.at, !c.done, c.done)
			}
		}
	}
}

// TestAllGo: B4, 2000 commands that go are all done, and a 2001st that would go is not.
func TestAllGo(t *testing.T) {
	b := buffer.New()
	var want []api.Entity
	for i := range 1001 {
		b.Put(0, e(i, 1), spawn())
		b.Put(0, e(i, 1), despawn(e(0, i+1)))
		if i < 1000 {
			want = append(want, e(0, i+1))
		}
	}
	w := made(t)
	wantApply(t, b, w, 2, want...)
	wantWorld(t, w)
	if who, bad := w.Spawn(nil); who != e(0, 1001) || bad != api.OK {
		t.Errorf("B4: the next one in the world: %v, %v", who, bad)
	}
}

// TestLongLists: P1, P3, commands with lists as long as they like are put and told whole, and refused by the world.
func TestLongLists(t *testing.T) {
	values := make([]int64, 300000)
	parts := make([]api.Part, 300000)
	for i := range values {
		values[i] = int64(i)
		parts[i] = p(i, values[:i%3]...)
	}
	commands := []api.Command{{Op: api.OpAdd, E: e(0, 1), Kind: 1, Values: values}, {Op: api.OpSpawn, Parts: parts}, {Op: 9, Values: values, Parts: parts}}
	b := inLine(t, commands...)
	wantAll(t, b, commands...)
	w := made(t, r(0, 1))
	wantApply(t, b, w, 3)
	wantWorld(t, w, r(0, 1))
}
