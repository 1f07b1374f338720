package lex_test

import (
	"errors"
	"fmt"
	"slices"
	"strings"
	"sync"
	"testing"

	"hindcast/api"
	"hindcast/lex"
)

// spoil writes into all of a list, and into the room behind it.
func spoil[T any](list []T, junk T) {
	list = list[:cap(list)]
	for i := range list {
		list[i] = junk
	}
}

// TestTokensAreNewMemory: P3 of L1, a list of tokens is the caller's, with its spare room.
func TestTokensAreNewMemory(t *testing.T) {
	for _, src := range []string{"", "a", "a b", "a b c", "a < 12 // c", strings.Repeat("x;", 100), strings.Repeat(";", api.MaxSource)} {
		want, _ := lex.Lex(src)
		want = slices.Clone(want)
		one, _ := lex.Lex(src)
		two, _ := lex.Lex(src)
		_ = append(one, tok(-1, "spoilt", -1))
		_ = append(two, tok(-2, "spoilt", -2))
		if !slices.Equal(one, want) || !slices.Equal(two, want) {
			t.Errorf("P3: Lex(%.20q): what is appended to a list stands in another one", src)
		}
		spoil(one, tok(-1, "spoilt", -1))
		three, _ := lex.Lex(src)
		if !slices.Equal(two, want) || !slices.Equal(three, want) {
			t.Errorf("P3: Lex(%.20q): what is written into a list stands in another one", src)
		}
	}
}

// TestWordsAreNewMemory: P3 of L2, a list of words is the caller's, with its spare room.
func TestWordsAreNewMemory(t *testing.T) {
	want := slices.Clone(lex.Words())
	one, two := lex.Words(), lex.Words()
	_ = append(one, "spoilt")
	spoil(one, "spoilt")
	if three := lex.Words(); !slices.Equal(two, want) || !slices.Equal(three, want) {
		t.Errorf("P3: Words: what is written into a list stands in another one: %v, %v", two, three)
	}
	wantTokens(t, "abs writes", tok(word, "abs", 0), tok(word, "writes", 4))
}

// TestFaultsAreNewMemory: P3 of L1, a fault is the caller's.
func TestFaultsAreNewMemory(t *testing.T) {
	for _, src := range []string{"@", "a /*", "1x", strings.Repeat(" ", api.MaxSource+1)} {
		_, first := lex.Lex(src)
		_, second := lex.Lex(src)
		var one, two *api.Fault
		if !errors.As(first, &one) || !errors.As(second, &two) {
			t.Fatalf("P5: Lex(%.20q): %v, %v, which are no faults", src, first, second)
		}
		want := *two
		*one = api.Fault{At: -1, Err: -1}
		if *two != want {
			t.Errorf("P3: Lex(%.20q): two faults share memory", src)
		}
		wantFault(t, src, want.At, want.Err)
	}
}

// all tells everything that the calls say of a source.
func all(src string) string {
	tokens, err := lex.Lex(src)
	told := fmt.Sprint(tokens, err, lex.Words())
	for at := -1; at <= len(src)+1; at++ {
		line, column := lex.Place(src, at)
		told += fmt.Sprint(" ", line, ":", column)
	}
	return told
}

// TestSideBySide: P4, what a call answers hangs on its arguments alone, whatever was asked ahead of it or beside it.
func TestSideBySide(t *testing.T) {
	sources := []string{"", "a\n b // c", "1 @", "/* \n", "system S { x = 1; }\n", "if a <= 12 { stop; }", "012", "func f(a) {\n return a; }"}
	var want []string
	for _, src := range sources {
		want = append(want, all(src))
	}
	got := make([]string, 16*len(sources))
	var wait sync.WaitGroup
	for i := range got {
		wait.Go(func() { got[i] = all(sources[i%len(sources)]) })
	}
	wait.Wait()
	for i := range got {
		if got[i] != want[i%len(sources)] {
			t.Errorf("P4: %q, beside others: %s, want %s", sources[i%len(sources)], got[i], want[i%len(sources)])
		}
	}
}
