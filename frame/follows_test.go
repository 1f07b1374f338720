package frame_test

import (
	"fmt"
	"math/rand"
	"runtime"
	"slices"
	"strings"
	"sync/atomic"
	"testing"
	"time"

	"hindcast/api"
	"hindcast/frame"
	"hindcast/pack"
	"hindcast/plan"
	"hindcast/world"
)

// answer is all that a step tells.
func answer(w *world.World, report api.Report, bad api.Errno) string {
	if bad != api.OK {
		return fmt.Sprint(w == nil, report, bad)
	}
	return fmt.Sprintf("%x %s", w.Snapshot(), reportTold(report))
}

// TestAllPicks: P8, all orders that picks make, of a game whose systems do all there is.
func TestAllPicks(t *testing.T) {
	g := game(t, `system A writes Pos { Pos.x = Pos.x + rand(9); emit 0, Pos.x; if rand(3) == 0 { die; } }
system B without Mark { add Mark{}; emit 1, rand(9); spawn Pos{y: me}; }
system C writes Vel { Vel.x = Vel.x * 3 + input(1, 1); if Vel.x % 5 == 2 { while 1 == 1 { } } remove Mark; }
system D with Mark, Pos { emit 3, has(Vel) ? 1 : 0; remove Vel; spawn; }
system E reads Pos, Vel { emit 4, Pos.x * Vel.x; if Pos.x > 20 { die; spawn Vel{x: me}; } }
system F writes Pos { Pos.y = Pos.y + Pos.x; if Pos.y > 90 { repeat 20 { emit 5, 5; } } }`)
	all := manyPicks(plan.New(g.Program().Systems).Stages(), 1<<20)
	if len(all) != 24 {
		t.Fatalf("the test's own game has %d orders", len(all))
	}
	w := g.Start()
	r := rand.New(rand.NewSource(3))
	for number := 1; number <= 12; number++ {
		tick := someTick(r, three())
		tick.Asks = append(tick.Asks, spawn(p(1, 3, int64(number)), p(2, int64(number))), spawn(p(2, 1)), spawn(p(1, 1, 1)))
		next, report, bad := g.Step(w, number, tick, nil)
		want := answer(next, report, bad)
		for _, picks := range all {
			if got := answer(g.Step(w, number, tick, picks)); got != want {
				t.Fatalf("P8: frame %d by the picks %v: %s, want %s", number, picks, got, want)
			}
		}
		for workers := -2; workers <= 20; workers++ {
			if got := answer(g.StepWith(w, number, tick, workers)); got != want {
				t.Fatalf("P8: frame %d by %d workers: %s, want %s", number, workers, got, want)
			}
		}
		w = next
	}
}

// otherWay makes a world with the same snapshot, whose parts and tables came in another order.
func otherWay(t *testing.T, w *world.World) *world.World {
	other, bad := world.Load(w.Kinds(), w.Snapshot())
	if bad != api.OK {
		t.Fatalf("W6: Load of a snapshot: %v", bad)
	}
	rows := other.Rows()
	slices.Reverse(rows)
	for _, row := range rows {
		for _, part := range row.Parts {
			other.Remove(row.E, part.Kind)
		}
		for _, part := range slices.Backward(row.Parts) {
			other.Add(row.E, part)
		}
	}
	if string(other.Snapshot()) != string(w.Snapshot()) {
		t.Fatalf("the test's own world: %s", worldTold(other))
	}
	return other
}

// TestSameSnapshot: what follows, the steps of worlds with the same snapshot are one.
func TestSameSnapshot(t *testing.T) {
	for seed := range 60 {
		r := rand.New(rand.NewSource(int64(seed)))
		g, m, _ := grown(t, r, 6)
		w := g.Start()
		for number := 1; number <= 4; number++ {
			tick := someTick(r, g.Kinds())
			picks := somePicks(r, m.stages())
			want, other := answer(g.Step(w, number, tick, picks)), otherWay(t, w)
			for _, same := range []*world.World{w, w.Clone(), other} {
				if got := answer(g.Step(same, number, tick, picks)); got != want {
					t.Fatalf("F6: the step of a world with the same snapshot: %s, want %s", got, want)
				}
			}
			if again := answer(g.StepWith(w, number, tick, 3)); m.pick(picks) == api.OK && again != answer(g.StepWith(other, number, tick, 4)) {
				t.Fatalf("F7: the step of a world with the same snapshot, by workers")
			}
			w, _, _ = g.Step(w, number, tick, nil)
		}
	}
}

// TestSameGame: what follows, what Step answers hangs on the game, the world, the frame and the tick alone, whatever was stepped between.
func TestSameGame(t *testing.T) {
	type call struct {
		w      *world.World
		number int
		tick   api.Tick
		want   string
	}
	for seed := range 40 {
		r := rand.New(rand.NewSource(int64(seed)))
		g, _, _ := grown(t, r, 6)
		same := newGame(t, g.Kinds(), g.Program())
		var calls []call
		w := g.Start()
		for number := 1; number <= 5; number++ {
			c := call{w: w, number: number, tick: someTick(r, g.Kinds())}
			next, report, bad := g.Step(w, number, c.tick, nil)
			c.want = answer(next, report, bad)
			calls = append(calls, c)
			w = next
		}
		for range 20 {
			c := calls[r.Intn(len(calls))]
			game := []*frame.Game{g, same}[r.Intn(2)]
			if got := answer(game.StepWith(c.w, c.number, c.tick, r.Intn(5))); got != c.want {
				t.Fatalf("P4: the frame %d anew: %s, want %s", c.number, got, c.want)
			}
		}
	}
}

// TestWhatASeedChanges: F5, dice hang on the tick's seed, the frame, the system and the number alone.
func TestWhatASeedChanges(t *testing.T) {
	g := game(t, "system A { emit rand(1000000), rand(1000000); } system B { emit rand(1000000), rand(1000000); }")
	w, _ := step(t, g, g.Start(), 1, asks(spawn(), spawn()))
	seen := map[string]int{}
	for seed := range int64(3) {
		for number := 1; number <= 3; number++ {
			_, report, _ := g.Step(w, number, api.Tick{Seed: seed}, nil)
			for _, event := range report.Events {
				seen[fmt.Sprint(event.Code, event.Value)]++
			}
		}
	}
	if len(seen) != 3*3*2*2 {
		t.Errorf("F5: %d rolls are other than all others, want 36", len(seen))
	}
}

// TestWornOut: F4 and F6, numbers that are worn out are given no more.
func TestWornOut(t *testing.T) {
	g := game(t, "system A with Mark { die; spawn Mark{}; }")
	b := pack.PutRow(nil, []int64{api.MaxGen, api.MaxGen - 1})
	b = pack.PutRow(b, nil)
	b = pack.Put(pack.Put(b, 0), 1<<3)
	w, bad := world.Load(three(), b)
	if bad != api.OK {
		t.Fatalf("the test's own world: %v", bad)
	}
	w = wantStep(t, "F4", g, w, 1, asks(despawn(e(0, api.MaxGen)), spawn()), "1 1000000 3:; 2 1", "spawned 2 1, spawned 1 1000000")
	wantStep(t, "F6", g, w, 2, asks(), "2 1; 3 1 3:", "spawned 3 1")
}

// goroutines counts those that the package has begun and that have not ended, by what all there are tell of themselves.
func goroutines() int {
	all := make([]byte, 1<<20)
	return strings.Count(string(all[:runtime.Stack(all, true)]), "created by hindcast/frame.")
}

// waitForNone waits until those that have said that they are done are gone; some are left, if it takes too long.
func waitForNone() int {
	for wait := 0; goroutines() > 0 && wait < 5000; wait++ {
		time.Sleep(time.Millisecond)
	}
	return goroutines()
}

// TestNoneIsLeft: F7, the goroutines of a call have ended when it answers, also where there is less to do than there are workers.
func TestNoneIsLeft(t *testing.T) {
	g := game(t, "system A with Mark { repeat 300 { } emit 1, me; } system B with Mark { repeat 300 { } }")
	w := g.Start()
	for number := 1; number <= 40; number++ {
		next, report, bad := g.StepWith(w, number, asks(spawn(p(3))), 16)
		if bad != api.OK || len(report.Events) != number {
			t.Fatalf("F7: frame %d: %v, %v", number, report, bad)
		}
		w = next
		if left := waitForNone(); left > 0 {
			t.Fatalf("F7: frame %d: %d goroutines are left", number, left)
		}
	}
}

// mostGoroutines tells how many there were at most while something was done.
func mostGoroutines(do func()) int {
	waitForNone()
	var done atomic.Bool
	most := make(chan int)
	go func() {
		seen := 0
		for !done.Load() {
			seen = max(seen, goroutines())
			time.Sleep(100 * time.Microsecond)
		}
		most <- seen
	}()
	do()
	done.Store(true)
	return <-most
}

// TestSoManyWorkers: F7, no more goroutines than were asked for, and none with numbers other than 2 to 16; nor by Step.
func TestSoManyWorkers(t *testing.T) {
	g := game(t, "system A with Mark { while 1 == 1 { } } system B with Mark { while 1 == 1 { } }")
	w := crowd(t, g, 100)
	count := func(workers int) int {
		return mostGoroutines(func() {
			if _, report, bad := g.StepWith(w, 1, api.Tick{}, workers); bad != api.OK || len(report.Failed) != 200 {
				t.Errorf("F7: %d workers: %d failed, %v", workers, len(report.Failed), bad)
			}
		})
	}
	for _, workers := range []int{-1 << 63, -2, -1, 0, 1, 17, 18, 32, 1 << 40, 1<<63 - 1} {
		if got := count(workers); got > 0 {
			t.Errorf("F7: %d workers: %d goroutines, want none", workers, got)
		}
	}
	if got := mostGoroutines(func() { g.Step(w, 1, api.Tick{}, []int{1, 0}) }); got > 0 {
		t.Errorf("F7: Step: %d goroutines, want none", got)
	}
	for workers := 2; workers <= 16; workers++ {
		most := 0
		for try := 0; try < 200 && most < 1; try++ { // who counts may come too late
			got := count(workers)
			if got > workers {
				t.Errorf("F7: %d workers: %d goroutines", workers, got)
			}
			most = max(most, got)
		}
		if most < 1 {
			t.Errorf("F7: %d workers: no goroutine was seen", workers)
		}
	}
}

// TestSourceOfAll: P6 and F5, a game whose systems have all statements plays as its tree says: the values are reckoned by hand.
func TestSourceOfAll(t *testing.T) {
	g := game(t, `func fact(n) { let f = 1; while n > 1 { f = f * n; n = n - 1; } return f; }
system Grow writes Pos { Pos.x = fact(Pos.y); repeat 3 { Pos.y = Pos.y + 1; } if Pos.y > 7 { stop; } else { emit Pos.y, Pos.x; } }
system Split without Mark reads Pos { if Pos.x >= 6 { spawn Pos{y: 1}, Mark{}; add Mark{}; } }`)
	w := wantStep(t, "F5", g, g.Start(), 1, asks(spawn(p(1, 0, 1)), spawn(p(1, 0, 3))), "0 1 1:1,4; 1 1 1:6,6 3:; 2 1 1:0,1 3:", "event s0 0 1 4=1, event s0 1 1 6=6, spawned 0 1, spawned 1 1, spawned 2 1")
	wantStep(t, "F5", g, w, 2, asks(), "0 1 1:24,7 3:; 1 1 1:720,9 3:; 2 1 1:1,4 3:; 3 1 1:0,1 3:", "event s0 0 1 7=24, event s0 2 1 4=1, spawned 3 1")
}
