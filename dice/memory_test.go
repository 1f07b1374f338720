package dice_test

import (
	"fmt"
	"slices"
	"sync"
	"testing"

	"hindcast/dice"
)

// TestShuffleIsNewMemory: P3, an order is the caller's, with its spare room, and no two share any.
func TestShuffleIsNewMemory(t *testing.T) {
	for _, n := range []int{1, 2, 3, 7, 52, 1000} {
		d, beside := dice.New(8, 0, 0, 0), dice.New(8, 0, 0, 0)
		one, two := d.Shuffle(n), d.Shuffle(n)
		wantOne, wantTwo := beside.Shuffle(n), beside.Shuffle(n)
		one = one[:cap(one)]
		for i := range one {
			one[i] = -77
		}
		two = append(two, -78)
		if !slices.Equal(two[:n], wantTwo) {
			t.Errorf("P3: Shuffle(%d): what is written into one order stands in another one", n)
		}
		if three, want := d.Shuffle(n), beside.Shuffle(n); !slices.Equal(three, want) {
			t.Errorf("P3: Shuffle(%d): what is written into an order changes the next one", n)
		}
		if slices.Contains(wantOne, -77) {
			t.Errorf("P3: Shuffle(%d): orders of two dice share memory", n)
		}
	}
}

// all rolls dice in every way, and tells what fell.
func all(d *dice.Dice) string {
	return fmt.Sprint(d.Next(), d.Below(6), d.Below(0), d.Between(-9, 9), d.Between(9, -9), d.Between(-1<<63, 1<<63-1), d.Shuffle(9), d.Next())
}

// TestOthersRolled: P4 and what follows, dice of the same four numbers fall alike, whatever others were rolled ahead of them and between.
func TestOthersRolled(t *testing.T) {
	alone := dice.New(1, 2, 3, 4)
	want := []string{all(alone), all(alone), all(alone)}
	other, same, late := dice.New(1, 2, 3, 5), dice.New(1, 2, 3, 4), dice.New(1, 2, 3, 4)
	for i := range want {
		all(other)
		if got := all(same); got != want[i] {
			t.Errorf("P4: other dice change these: %s, want %s", got, want[i])
		}
		all(dice.New(1, 2, 3, 4))
	}
	if got := all(late); got != want[0] {
		t.Errorf("P4: dice that were made alike are not apart: %s, want %s", got, want[0])
	}
}

// TestSideBySide: P4, dice of one's own may be rolled on any goroutine.
func TestSideBySide(t *testing.T) {
	want := make([]string, 16)
	for i := range want {
		d := dice.New(3, i/4, i%4, 0)
		for range 50 {
			want[i] += all(d)
		}
	}
	got := make([]string, len(want))
	var wait sync.WaitGroup
	for i := range got {
		wait.Go(func() {
			d := dice.New(3, i/4, i%4, 0)
			for range 50 {
				got[i] += all(d)
			}
		})
	}
	wait.Wait()
	if !slices.Equal(got, want) {
		t.Errorf("P4: dice that are rolled side by side fall otherwise than one behind the other")
	}
}
