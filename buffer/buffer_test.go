package buffer_test

import (
	"bytes"
	"fmt"
	"math"
	"slices"
	"testing"

	"hindcast/api"
	"hindcast/buffer"
	"hindcast/world"
)

func e(index, gen int) api.Entity { return api.Entity{Index: index, Gen: gen} }

func p(kind int, values ...int64) api.Part { return api.Part{Kind: kind, Values: values} }

func r(index, gen int, parts ...api.Part) api.Row { return api.Row{E: e(index, gen), Parts: parts} }

func spawn(parts ...api.Part) api.Command { return api.Command{Op: api.OpSpawn, Parts: parts} }

func despawn(who api.Entity) api.Command { return api.Command{Op: api.OpDespawn, E: who} }

func add(who api.Entity, part api.Part) api.Command {
	return api.Command{Op: api.OpAdd, E: who, Kind: part.Kind, Values: part.Values}
}

func remove(who api.Entity, kind int) api.Command {
	return api.Command{Op: api.OpRemove, E: who, Kind: kind}
}

// mark is a command that does nothing, and is told from others by its number.
func mark(n int) api.Command { return api.Command{Op: 100 + n} }

// three are the kinds of the tests' worlds: 1 is Pos, 2 is Vel, 3 is Dead.
func three() []api.Kind {
	return []api.Kind{{Name: "Pos", Fields: []string{"x", "y"}}, {Name: "Vel", Fields: []string{"x"}}, {Name: "Dead"}}
}

// made is a world of these kinds, and these rows, whose entities come as they stand.
func made(t testing.TB, rows ...api.Row) *world.World {
	t.Helper()
	w, bad := world.New(three())
	if bad != api.OK {
		t.Fatalf("the test's own kinds: %v", bad)
	}
	for _, row := range rows {
		if who, bad := w.Spawn(row.Parts); bad != api.OK || who != row.E {
			t.Fatalf("the test's own row %v: %v, %v", row, who, bad)
		}
	}
	return w
}

// wish is a command, and who puts it.
type wish struct {
	system int
	e      api.Entity
	c      api.Command
}

// put makes a buffer of these, put one behind the other.
func put(t testing.TB, wishes ...wish) *buffer.Buffer {
	t.Helper()
	b := buffer.New()
	for _, x := range wishes {
		if bad := b.Put(x.system, x.e, x.c); bad != api.OK {
			t.Fatalf("B2: Put(%d, %v, %v): %v", x.system, x.e, x.c, bad)
		}
	}
	return b
}

// inLine makes a buffer of commands of one system, for one entity.
func inLine(t testing.TB, commands ...api.Command) *buffer.Buffer {
	t.Helper()
	b := buffer.New()
	for _, c := range commands {
		if bad := b.Put(0, e(0, 1), c); bad != api.OK {
			t.Fatalf("B2: Put of %v: %v", c, bad)
		}
	}
	return b
}

func wantAll(t testing.TB, b *buffer.Buffer, want ...api.Command) {
	t.Helper()
	if got := b.All(); !slices.EqualFunc(got, want, sameCommand) {
		t.Errorf("B3: All: %v, want %v", got, want)
	}
}

func wantApply(t testing.TB, b *buffer.Buffer, w *world.World, refused int, spawned ...api.Entity) {
	t.Helper()
	if who, n := b.Apply(w); !slices.Equal(who, spawned) || n != refused {
		t.Errorf("B4: Apply of %s: made %v, refused %d; want %v, %d", shown(b.All()), who, n, spawned, refused)
	}
}

func wantWorld(t testing.TB, w *world.World, want ...api.Row) {
	t.Helper()
	if got := w.Rows(); !slices.EqualFunc(got, want, sameRow) {
		t.Errorf("B4: the world's rows: %v, want %v", got, want)
	}
}

// shown is a list of commands, or how long it is.
func shown(commands []api.Command) string {
	if len(commands) > 20 {
		return fmt.Sprint(len(commands), " commands")
	}
	return fmt.Sprint(commands)
}

func samePart(a, b api.Part) bool { return a.Kind == b.Kind && slices.Equal(a.Values, b.Values) }

func sameRow(a, b api.Row) bool { return a.E == b.E && slices.EqualFunc(a.Parts, b.Parts, samePart) }

func sameCommand(a, b api.Command) bool {
	return a.Op == b.Op && a.E == b.E && a.Kind == b.Kind && slices.Equal(a.Values, b.Values) && slices.EqualFunc(a.Parts, b.Parts, samePart)
}

// TestNew: B1, a buffer without commands does nothing.
func TestNew(t *testing.T) {
	b := buffer.New()
	wantAll(t, b)
	w := made(t, r(0, 1, p(1, 1, 2)))
	was := w.Snapshot()
	wantApply(t, b, w, 0)
	if !bytes.Equal(w.Snapshot(), was) {
		t.Errorf("B1: a buffer without commands changes a world: %v", w.Rows())
	}
}

// TestNewIsApart: B1 and P4, buffers have nothing to do with one another.
func TestNewIsApart(t *testing.T) {
	one, two := buffer.New(), buffer.New()
	one.Put(0, e(0, 1), mark(1))
	wantAll(t, two)
	two.Put(0, e(0, 1), mark(2))
	wantAll(t, one, mark(1))
	wantAll(t, two, mark(2))
	wantAll(t, buffer.New())
}

// TestExample: the chapter's example.
func TestExample(t *testing.T) {
	plus, minus, come, gone := add(e(5, 1), p(1, 1, 2)), remove(e(5, 1), 3), spawn(p(2, 3)), despawn(e(5, 1))
	b := put(t,
		wish{1, e(5, 1), gone},
		wish{0, e(9, 1), plus},
		wish{1, e(2, 1), come},
		wish{0, e(9, 1), minus})
	wantAll(t, b, plus, minus, come, gone)
	w := made(t, r(0, 1), r(1, 1), r(2, 1), r(3, 1), r(4, 1), r(5, 1, p(3)))
	wantApply(t, b, w, 0, e(6, 1))
	wantWorld(t, w, r(0, 1), r(1, 1), r(2, 1), r(3, 1), r(4, 1), r(6, 1, p(2, 3)))
	wantApply(t, put(t, wish{1, e(5, 1), plus}, wish{0, e(5, 1), gone}), made(t, r(0, 1), r(1, 1), r(2, 1), r(3, 1), r(4, 1), r(5, 1)), 1)
}

// TestOrder: B3, by system, then by Index, then by sequence; all numbers there are.
func TestOrder(t *testing.T) {
	for _, c := range []struct {
		says   string
		wishes []wish
		want   []int
	}{
		{"sequence", []wish{{0, e(0, 1), mark(0)}, {0, e(0, 1), mark(1)}, {0, e(0, 1), mark(2)}}, []int{0, 1, 2}},
		{"system", []wish{{2, e(0, 1), mark(0)}, {0, e(0, 1), mark(1)}, {1, e(0, 1), mark(2)}}, []int{1, 2, 0}},
		{"index", []wish{{0, e(2, 1), mark(0)}, {0, e(0, 1), mark(1)}, {0, e(1, 1), mark(2)}}, []int{1, 2, 0}},
		{"system ahead of index", []wish{{1, e(0, 1), mark(0)}, {0, e(9, 1), mark(1)}}, []int{1, 0}},
		{"index ahead of sequence", []wish{{0, e(1, 1), mark(0)}, {0, e(0, 1), mark(1)}, {0, e(1, 1), mark(2)}, {0, e(0, 1), mark(3)}}, []int{1, 3, 0, 2}},
		{"no generation", []wish{{0, e(1, 9), mark(0)}, {0, e(1, 2), mark(1)}, {0, e(1, 9), mark(2)}, {0, e(1, -1), mark(3)}}, []int{0, 1, 2, 3}},
		{"a greater generation is no greater Index", []wish{{0, e(2, 1), mark(0)}, {0, e(1, 99), mark(1)}}, []int{1, 0}},
		{"numbers, not digits", []wish{{10, e(0, 1), mark(0)}, {9, e(10, 1), mark(1)}, {9, e(9, 1), mark(2)}}, []int{2, 1, 0}},
		{"systems below 0", []wish{{0, e(0, 1), mark(0)}, {-1, e(0, 1), mark(1)}, {-2, e(0, 1), mark(2)}}, []int{2, 1, 0}},
		{"Indexes below 0", []wish{{0, e(0, 1), mark(0)}, {0, e(-1, 1), mark(1)}, {0, e(-2, 1), mark(2)}}, []int{2, 1, 0}},
		{"the least and the greatest system", []wish{{math.MaxInt, e(0, 1), mark(0)}, {0, e(0, 1), mark(1)}, {math.MinInt, e(0, 1), mark(2)}, {-1, e(0, 1), mark(3)}, {1, e(0, 1), mark(4)}}, []int{2, 3, 1, 4, 0}},
		{"the least and the greatest Index", []wish{{0, e(math.MaxInt, 1), mark(0)}, {0, e(0, 1), mark(1)}, {0, e(math.MinInt, 1), mark(2)}, {0, e(-1, 1), mark(3)}, {0, e(1, 1), mark(4)}}, []int{2, 3, 1, 4, 0}},
		{"greater than 32 bits", []wish{{1 << 32, e(0, 1), mark(0)}, {1, e(1<<32, 1), mark(1)}, {1, e(1, 1), mark(2)}}, []int{2, 1, 0}},
		{"not by what the command says", []wish{{1, e(0, 1), api.Command{Op: 100, E: e(-5, 1), Kind: -5}}, {0, e(0, 1), mark(1)}}, []int{1, 0}},
	} {
		var got []int
		for _, command := range put(t, c.wishes...).All() {
			got = append(got, command.Op-100)
		}
		if !slices.Equal(got, c.want) {
			t.Errorf("B3: %s: %v, want %v", c.says, got, c.want)
		}
	}
}

// TestAnyCommand: B2, any command is taken, and told whole, whether a world would take it or not.
func TestAnyCommand(t *testing.T) {
	commands := []api.Command{
		{},
		{Op: -1},
		{Op: math.MinInt, E: e(math.MinInt, math.MaxInt), Kind: math.MinInt, Values: []int64{math.MinInt64, math.MaxInt64}},
		{Op: math.MaxInt, Parts: []api.Part{p(0), p(-1, 1, 2, 3, 4, 5, 6, 7), p(13), p(13)}},
		{Op: api.OpSpawn, E: e(3, 4), Kind: 5, Values: []int64{6, 7}, Parts: []api.Part{p(1, 2)}},
		{Op: api.OpDespawn, E: e(3, 4), Kind: 5, Values: []int64{6, 7}, Parts: []api.Part{p(1, 2)}},
		{Op: api.OpAdd, E: e(3, 4), Kind: 5, Values: []int64{6, 7}, Parts: []api.Part{p(1, 2)}},
		{Op: api.OpRemove, E: e(3, 4), Kind: 5, Values: []int64{6, 7}, Parts: []api.Part{p(1, 2)}},
		{Op: api.OpSpawn, Values: []int64{}, Parts: []api.Part{}},
		{Op: api.OpSpawn, Parts: []api.Part{{Kind: 3, Values: []int64{}}, {Kind: 3}}},
	}
	b := inLine(t, commands...)
	wantAll(t, b, commands...)
	wantAll(t, b, commands...)
}

// TestAllBetween: B3, what was put ahead is told with what was put behind an All or an Apply.
func TestAllBetween(t *testing.T) {
	b := put(t, wish{1, e(0, 1), mark(0)})
	wantAll(t, b, mark(0))
	b.Put(0, e(0, 1), mark(1))
	wantAll(t, b, mark(1), mark(0))
	wantApply(t, b, made(t), 2)
	b.Put(1, e(0, 1), mark(2))
	b.Put(0, e(0, 1), mark(3))
	wantAll(t, b, mark(1), mark(3), mark(0), mark(2))
	wantApply(t, b, made(t), 4)
}

// TestRefused: B4, each way in which a world refuses a command, and other Ops: nothing is changed, and it is counted.
func TestRefused(t *testing.T) {
	rows := []api.Row{r(0, 1, p(1, 1, 2)), r(1, 1, p(2, 3), p(3))}
	for _, c := range []api.Command{
		{}, {Op: 5}, {Op: -1}, {Op: 1 << 32}, {Op: 1<<32 + api.OpDespawn, E: e(0, 1)}, {Op: math.MinInt}, {Op: math.MaxInt, Parts: []api.Part{p(3)}},
		spawn(p(0)), spawn(p(4)), spawn(p(3), p(-1)), spawn(p(3), p(3)), spawn(p(1, 1)), spawn(p(1, 1, 2, 3)), spawn(p(3, 1)), spawn(p(2, 1), p(1)),
		despawn(e(2, 1)), despawn(e(0, 2)), despawn(e(0, 0)), despawn(e(-1, 1)), despawn(e(200, 1)), despawn(api.Entity{}),
		add(e(2, 1), p(3)), add(e(0, 2), p(3)), add(e(0, 1), p(0)), add(e(0, 1), p(4)), add(e(0, 1), p(1, 5, 6)), add(e(0, 1), p(2)), add(e(0, 1), p(2, 1, 2)), add(e(0, 1), p(3, 1)),
		remove(e(2, 1), 1), remove(e(1, 2), 2), remove(e(0, 1), 0), remove(e(0, 1), 4), remove(e(0, 1), 2), remove(e(1, 1), 1),
	} {
		w := made(t, rows...)
		was := w.Snapshot()
		wantApply(t, inLine(t, c), w, 1)
		if !bytes.Equal(w.Snapshot(), was) {
			t.Errorf("B4: %v is refused, and changes the world: %v", c, w.Rows())
		}
		// Three of these five, whatever it is: if it is a despawn of 2 1, which goes the second time, then the add goes no more.
		wantApply(t, inLine(t, c, spawn(p(3)), c, add(e(2, 1), p(2, 9)), c), made(t, rows...), 3, e(2, 1))
	}
}

// TestDone: B4, each Op, and that it takes just what is its own of the command.
func TestDone(t *testing.T) {
	rows := []api.Row{r(0, 1, p(1, 1, 2)), r(1, 1, p(2, 3), p(3))}
	wrong := []api.Part{p(-1), p(1)}
	for _, c := range []struct {
		command api.Command
		made    []api.Entity
		want    []api.Row
	}{
		{spawn(), []api.Entity{e(2, 1)}, []api.Row{rows[0], rows[1], r(2, 1)}},
		{spawn(p(3), p(1, 7, 8)), []api.Entity{e(2, 1)}, []api.Row{rows[0], rows[1], r(2, 1, p(1, 7, 8), p(3))}},
		{api.Command{Op: api.OpSpawn, E: e(0, 1), Kind: 1, Values: []int64{9}, Parts: []api.Part{p(2, 5)}}, []api.Entity{e(2, 1)}, []api.Row{rows[0], rows[1], r(2, 1, p(2, 5))}},
		{api.Command{Op: api.OpSpawn, E: e(-1, -1), Kind: -1, Values: []int64{9, 9, 9, 9, 9}}, []api.Entity{e(2, 1)}, []api.Row{rows[0], rows[1], r(2, 1)}},
		{despawn(e(0, 1)), nil, []api.Row{rows[1]}},
		{despawn(e(1, 1)), nil, []api.Row{rows[0]}},
		{api.Command{Op: api.OpDespawn, E: e(1, 1), Kind: -1, Values: []int64{9}, Parts: wrong}, nil, []api.Row{rows[0]}},
		{add(e(0, 1), p(3)), nil, []api.Row{r(0, 1, p(1, 1, 2), p(3)), rows[1]}},
		{add(e(1, 1), p(1, math.MinInt64, math.MaxInt64)), nil, []api.Row{rows[0], r(1, 1, p(1, math.MinInt64, math.MaxInt64), p(2, 3), p(3))}},
		{api.Command{Op: api.OpAdd, E: e(0, 1), Kind: 2, Values: []int64{4}, Parts: wrong}, nil, []api.Row{r(0, 1, p(1, 1, 2), p(2, 4)), rows[1]}},
		{remove(e(0, 1), 1), nil, []api.Row{r(0, 1), rows[1]}},
		{remove(e(1, 1), 2), nil, []api.Row{rows[0], r(1, 1, p(3))}},
		{api.Command{Op: api.OpRemove, E: e(1, 1), Kind: 3, Values: []int64{9, 9}, Parts: wrong}, nil, []api.Row{rows[0], r(1, 1, p(2, 3))}},
	} {
		w := made(t, rows...)
		b := put(t, wish{7, e(99, 99), c.command}) // for somebody else than it speaks of
		wantApply(t, b, w, 0, c.made...)
		wantWorld(t, w, c.want...)
		wantAll(t, b, c.command)
	}
}

// TestOneBehindTheOther: B4, each command sees what those ahead of it have done.
func TestOneBehindTheOther(t *testing.T) {
	w := made(t)
	b := put(t,
		wish{0, e(0, 1), spawn(p(2, 5))},
		wish{0, e(0, 1), add(e(0, 1), p(3))},
		wish{0, e(0, 1), remove(e(0, 1), 2)},
		wish{0, e(0, 1), add(e(0, 1), p(2, 6))},
		wish{0, e(0, 1), spawn()},
		wish{0, e(0, 1), despawn(e(1, 1))},
		wish{0, e(0, 1), despawn(e(1, 1))}, // refused
		wish{0, e(0, 1), spawn(p(1, 1, 1))},
		wish{0, e(0, 1), add(e(1, 1), p(3))}, // refused: it is another one now
		wish{0, e(0, 1), add(e(1, 2), p(3))},
		wish{0, e(0, 1), despawn(e(0, 1))},
		wish{0, e(0, 1), spawn()})
	wantApply(t, b, w, 2, e(0, 1), e(1, 1), e(1, 2), e(0, 2))
	wantWorld(t, w, r(0, 2), r(1, 2, p(1, 1, 1), p(3)))
}

// TestSpawnedAsMade: B4, in the order in which they were made, which is that of the commands, not of the puts nor of the numbers.
func TestSpawnedAsMade(t *testing.T) {
	w := made(t, r(0, 1), r(1, 1), r(2, 1))
	wantApply(t, inLine(t, despawn(e(2, 1)), despawn(e(0, 1))), w, 0)
	b := put(t,
		wish{1, e(0, 1), spawn(p(2, 10))},
		wish{0, e(5, 1), spawn(p(2, 5))},
		wish{0, e(4, 1), spawn(p(2, 4))})
	wantApply(t, b, w, 0, e(2, 2), e(0, 2), e(3, 1))
	wantWorld(t, w, r(0, 2, p(2, 5)), r(1, 1), r(2, 2, p(2, 4)), r(3, 1, p(2, 10)))
}

// TestFullWorld: B4, a spawn in a world that has no room is refused, and goes again behind a despawn.
func TestFullWorld(t *testing.T) {
	w := made(t)
	var commands []api.Command
	var want []api.Entity
	for i := range api.MaxEntities {
		commands = append(commands, spawn())
		want = append(want, e(i, 1))
	}
	wantApply(t, inLine(t, commands...), w, 0, want...)
	wantApply(t, inLine(t, spawn(), spawn(p(3)), despawn(e(7, 1)), spawn(p(3)), spawn()), w, 3, e(7, 2))
	if len(w.Rows()) != api.MaxEntities {
		t.Errorf("B4: a full world has %d entities", len(w.Rows()))
	}
}

// TestStays: B4, the buffer stays as it is: applied to two worlds that are one it makes two that are one; and to one world it may be applied again.
func TestStays(t *testing.T) {
	rows := []api.Row{r(0, 1, p(1, 1, 2)), r(1, 1, p(2, 3), p(3))}
	commands := []api.Command{despawn(e(0, 1)), spawn(p(3)), add(e(1, 1), p(1, 5, 6)), remove(e(1, 1), 3), mark(1)}
	b := inLine(t, commands...)
	one, two := made(t, rows...), made(t, rows...)
	wantApply(t, b, one, 1, e(0, 2))
	wantAll(t, b, commands...)
	wantApply(t, b, two, 1, e(0, 2))
	wantAll(t, b, commands...)
	if !bytes.Equal(one.Snapshot(), two.Snapshot()) {
		t.Errorf("B4: two worlds that were one: %v and %v", one.Rows(), two.Rows())
	}
	wantWorld(t, one, r(0, 2, p(3)), r(1, 1, p(1, 5, 6), p(2, 3)))
	wantApply(t, b, one, 4, e(2, 1))
	wantWorld(t, one, r(0, 2, p(3)), r(1, 1, p(1, 5, 6), p(2, 3)), r(2, 1, p(3)))
	wantAll(t, b, commands...)
}
