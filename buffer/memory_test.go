package buffer_test

import (
	"bytes"
	"fmt"
	"math/rand"
	"slices"
	"sync"
	"testing"

	"hindcast/api"
	"hindcast/buffer"
)

// junk stands in the room behind lists, and must stay there.
const junk = -77

// fill writes into a list, and into the room behind it.
func fill[T any](list []T, with T) {
	list = list[:cap(list)]
	for i := range list {
		list[i] = with
	}
}

// overwrite writes into all lists of commands, and into the room behind them.
func overwrite(commands []api.Command) {
	for _, c := range commands {
		for _, part := range c.Parts {
			fill(part.Values, junk)
		}
		fill(c.Values, junk)
		fill(c.Parts, p(junk, junk))
	}
	fill(commands, api.Command{Op: junk})
}

// roomy gives a list with room behind it, and junk in that.
func roomy[T any](list []T, junk T) []T {
	return append(slices.Clone(list), junk, junk, junk)[:len(list)]
}

func roomyCommand(c api.Command) api.Command {
	c.Values = roomy(c.Values, junk)
	c.Parts = roomy(c.Parts, p(junk, junk))
	for i, part := range c.Parts {
		c.Parts[i].Values = roomy(part.Values, junk)
	}
	return c
}

// whole is a command with the room behind its lists.
func whole(c api.Command) string {
	text := fmt.Sprint(c.Op, c.E, c.Kind, c.Values[:cap(c.Values)])
	for _, part := range c.Parts[:cap(c.Parts)] {
		text += fmt.Sprint(part.Kind, part.Values[:cap(part.Values)])
	}
	return text
}

// listsOf are all lists of numbers in commands.
func listsOf(commands []api.Command) []*[]int64 {
	var lists []*[]int64
	for i := range commands {
		lists = append(lists, &commands[i].Values)
		for k := range commands[i].Parts {
			lists = append(lists, &commands[i].Parts[k].Values)
		}
	}
	return lists
}

// rich are commands with lists of all sorts.
func rich() []api.Command {
	return []api.Command{
		spawn(p(1, 1, 2), p(2, 3), p(3)),
		add(e(0, 1), p(2, 4)),
		{Op: 9, E: e(1, 2), Kind: 3, Values: []int64{5, 6, 7, 8, 9}, Parts: []api.Part{p(4, 10, 11, 12), p(5), p(6, 13)}},
		remove(e(0, 1), 2),
		spawn(p(2, 14), p(1, 15, 16)),
		{Op: api.OpSpawn, Values: []int64{}, Parts: []api.Part{}},
	}
}

// TestPutWritesIntoNothing: P3, what is handed to Put stays as it is, with the room behind its lists, whatever is done with the buffer then.
func TestPutWritesIntoNothing(t *testing.T) {
	for seed := range 300 {
		r := rand.New(rand.NewSource(int64(seed)))
		b := buffer.New()
		var given []api.Command
		var was []string
		for _, x := range someWishes(r, r.Intn(30)) {
			c := roomyCommand(x.c)
			given, was = append(given, c), append(was, whole(c))
			b.Put(x.system, x.e, c)
		}
		b.Apply(made(t, someRows(r)...))
		overwrite(b.All())
		b.Apply(made(t, someRows(r)...))
		for i, c := range given {
			if whole(c) != was[i] {
				t.Fatalf("P3: what Put was given is written into: %s, want %s", whole(c), was[i])
			}
		}
	}
}

// TestPutKeepsNothing: P3 of B2, lists that a command points to may be changed by their owner then; one list may be put several times.
func TestPutKeepsNothing(t *testing.T) {
	given := rich()
	b := inLine(t, given...)
	overwrite(given)
	wantAll(t, b, rich()...)
	w := made(t, r(0, 1, p(1, 1, 1)))
	wantApply(t, b, w, 1, e(1, 1), e(2, 1), e(3, 1))
	wantWorld(t, w, r(0, 1, p(1, 1, 1)), r(1, 1, p(1, 1, 2), p(2, 3), p(3)), r(2, 1, p(1, 15, 16), p(2, 14)), r(3, 1))

	values := []int64{1, 2}
	parts := []api.Part{p(1, values...), {Kind: 1, Values: values}}
	again := api.Command{Op: 9, Values: values, Parts: parts}
	b = inLine(t, again, again)
	values[0], parts[0].Kind = 99, 99
	b.Put(0, e(0, 1), again)
	old := api.Command{Op: 9, Values: []int64{1, 2}, Parts: []api.Part{p(1, 1, 2), p(1, 1, 2)}}
	wantAll(t, b, old, old, api.Command{Op: 9, Values: []int64{99, 2}, Parts: []api.Part{p(99, 99, 2), p(1, 99, 2)}})
}

// TestAllIsNewMemory: P3 of B3, what is written into what All answered, and behind it, stands nowhere else.
func TestAllIsNewMemory(t *testing.T) {
	for _, wishes := range []model{
		{{0, e(0, 1), rich()[0]}},
		{{0, e(0, 1), rich()[0]}, {0, e(0, 1), rich()[1]}, {0, e(0, 1), rich()[2]}},
		{{0, e(0, 1), rich()[2]}, {1, e(0, 1), rich()[4]}, {1, e(1, 1), rich()[2]}},
	} {
		b, want := put(t, wishes...), wishes.all()
		one, two := b.All(), b.All()
		_ = append(one, mark(0))
		overwrite(one)
		if !slices.EqualFunc(two, want, sameCommand) {
			t.Errorf("P3: two answers of All share memory: %v, want %v", two, want)
		}
		wantAll(t, b, want...)
		b.Put(1, e(1, 1), mark(5))
		if !slices.EqualFunc(two, want, sameCommand) {
			t.Errorf("P3: what All answered has become %v, want %v", two, want)
		}
		overwrite(two)
		wantAll(t, b, append(wishes, wish{1, e(1, 1), mark(5)}).all()...)
	}
}

// TestListsAreApart: P3, no two lists of one answer share memory, nor does the room behind them, though they were put as one list.
func TestListsAreApart(t *testing.T) {
	values := []int64{1, 2, 3}
	parts := []api.Part{{Kind: 1, Values: values}, {Kind: 2, Values: values[:2]}, {Kind: 3, Values: values[1:]}}
	one := api.Command{Op: 9, Values: values, Parts: parts}
	b := put(t, wish{0, e(0, 1), one}, wish{0, e(0, 1), one}, wish{1, e(0, 1), one}, wish{0, e(5, 1), api.Command{Op: 9, Parts: parts[1:]}})
	for i := range listsOf(b.All()) {
		got, want := b.All(), b.All()
		list := listsOf(got)[i]
		_ = append(*list, junk)
		fill(*list, junk)
		*list, *listsOf(want)[i] = nil, nil
		if !slices.EqualFunc(got, want, sameCommand) {
			t.Errorf("P3: the list %d shares memory with another one: %v", i, got)
		}
	}
	for i := range b.All() {
		got, want := b.All(), b.All()
		_ = append(got[i].Parts, p(junk))
		fill(got[i].Parts, p(junk))
		got[i].Parts, want[i].Parts = nil, nil
		if !slices.EqualFunc(got, want, sameCommand) {
			t.Errorf("P3: the parts of the command %d share memory with those of another one: %v", i, got)
		}
	}
}

// TestApplyIsNewMemory: P3 of B4, who was made is the caller's; and a world that commands were done on has nothing to do with the buffer any more.
func TestApplyIsNewMemory(t *testing.T) {
	b := inLine(t, rich()...)
	one, two := made(t, r(0, 1)), made(t, r(0, 1))
	who, _ := b.Apply(one)
	other, _ := b.Apply(two)
	_ = append(who, e(junk, junk))
	fill(who, e(junk, junk))
	if !slices.Equal(other, []api.Entity{e(1, 1), e(2, 1), e(3, 1)}) {
		t.Errorf("P3: two answers of Apply share memory: %v", other)
	}
	was := two.Snapshot()
	one.Set(e(1, 1), p(1, junk, junk))
	one.Set(e(2, 1), p(2, junk))
	one.Add(e(0, 1), p(3))
	one.Despawn(e(3, 1))
	overwrite(b.All())
	b.Put(0, e(0, 1), spawn())
	if !bytes.Equal(two.Snapshot(), was) {
		t.Errorf("P4: two worlds that one buffer was applied to are not apart: %v", two.Rows())
	}
	wantAll(t, b, append(rich(), spawn())...)
}

// TestErrnos: P2 and P5, a Put that does not go answers a number, which is an error, and leaves what it is given.
func TestErrnos(t *testing.T) {
	b := full(t, none, none)
	c := roomyCommand(rich()[2])
	was := whole(c)
	var err error = b.Put(0, e(0, 1), c)
	if err != api.ErrFull || err.Error() != "hindcast: error 40" {
		t.Errorf("P5: Put of one too many: %v", err)
	}
	if whole(c) != was || len(b.All()) != api.MaxColumn {
		t.Errorf("P2: a Put that does not go changes something")
	}
}

// TestSideBySide: P4, buffers on goroutines of their own answer as they do alone; and one that nobody puts into may be asked, and applied to many worlds, at a time.
func TestSideBySide(t *testing.T) {
	r := rand.New(rand.NewSource(5))
	m := someWishes(r, 60)
	rows := someRows(r)
	shared := put(t, m...)
	w := made(t, rows...)
	who, refused := shared.Apply(w)
	all, after := fmt.Sprint(shared.All()), w.Snapshot()
	var group sync.WaitGroup
	for range 8 {
		group.Go(func() {
			for range 50 {
				own := buffer.New()
				for _, x := range m {
					own.Put(x.system, x.e, x.c)
				}
				for _, b := range []*buffer.Buffer{own, shared} {
					w := made(t, rows...)
					got, n := b.Apply(w)
					list := b.All()
					if !slices.Equal(got, who) || n != refused || fmt.Sprint(list) != all || !bytes.Equal(w.Snapshot(), after) {
						t.Errorf("P4: another answer beside others: %v, %d, %v", got, n, w.Rows())
						return
					}
					overwrite(list)
				}
			}
		})
	}
	group.Wait()
}

// TestSameAgain: P4, the same puts give the same answers, time and again: the order of a map does not show.
func TestSameAgain(t *testing.T) {
	for seed := range 40 {
		r := rand.New(rand.NewSource(int64(seed)))
		m := someWishes(r, 100)
		want := m.all()
		for range 10 {
			wantAll(t, put(t, m...), want...)
		}
	}
}

// FuzzCalls: P1 and B2 to B4, any calls, against the model.
func FuzzCalls(f *testing.F) {
	f.Add(int64(1), 20, 3, 5)
	f.Add(int64(2), 0, -1, 0)
	f.Add(int64(3), 300, 1<<40, -1<<40)
	f.Fuzz(func(t *testing.T, seed int64, puts, system, index int) {
		r := rand.New(rand.NewSource(seed))
		rows := someRows(r)
		m, b, w, l := model{}, buffer.New(), made(t, rows...), landOf(rows)
		for i, x := range someWishes(r, max(0, min(puts, 300))) {
			if i%3 == 0 {
				x.system = system
			}
			if i%4 == 0 {
				x.e.Index = index
			}
			m = append(m, x)
			if bad := b.Put(x.system, x.e, x.c); bad != api.OK {
				t.Fatalf("B2: Put(%d, %v, %v): %v", x.system, x.e, x.c, bad)
			}
			if r.Intn(20) == 0 {
				compare(t, m, b, w, l, map[string]int{})
			}
		}
		compare(t, m, b, w, l, map[string]int{})
	})
}
