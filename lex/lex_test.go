package lex_test

import (
	"errors"
	"math"
	"slices"
	"strings"
	"testing"

	"hindcast/api"
	"hindcast/lex"
)

const (
	end    = api.TokEnd
	word   = api.TokWord
	number = api.TokNumber
	sign   = api.TokSign
)

const greatest = "9223372036854775807"

func tok(kind int, text string, at int) api.Token { return api.Token{Kind: kind, Text: text, At: at} }

// wantTokens holds a source's tokens against these, behind which its end must stand.
func wantTokens(t *testing.T, src string, want ...api.Token) {
	t.Helper()
	want = append(want, tok(end, "", len(src)))
	if got, err := lex.Lex(src); err != nil || !slices.Equal(got, want) {
		t.Errorf("L1: Lex(%q): %v, %v, want %v", src, got, err, want)
	}
}

// wantFault holds a source's fault against this one, beside which nothing may be told.
func wantFault(t *testing.T, src string, at int, number api.Errno) {
	t.Helper()
	got, err := lex.Lex(src)
	fault, ok := err.(*api.Fault)
	if !ok || fault == nil || *fault != (api.Fault{At: at, Err: number}) {
		t.Errorf("L1: Lex of %.40q (%d bytes): %v, want %v at %d", src, len(src), err, number, at)
	}
	if !errors.Is(err, number) {
		t.Errorf("P5: Lex of %.40q (%d bytes): the fault does not wrap %v", src, len(src), number)
	}
	if got != nil {
		t.Errorf("P2: Lex of %.40q (%d bytes): %v beside an error", src, len(src), got)
	}
}

func wantNone(t *testing.T, src string, at int) {
	t.Helper()
	wantFault(t, src, at, api.ErrToken)
}

// TestExamples: those of the chapter.
func TestExamples(t *testing.T) {
	wantTokens(t, "x1 = -12; // no", tok(word, "x1", 0), tok(sign, "=", 3), tok(sign, "-", 5), tok(number, "12", 6), tok(sign, ";", 8))
	wantTokens(t, "a<==b", tok(word, "a", 0), tok(sign, "<=", 1), tok(sign, "=", 3), tok(word, "b", 4))
	wantTokens(t, "a/*b*/c", tok(word, "a", 0), tok(word, "c", 6))
	wantNone(t, "012", 0)
	wantNone(t, "1x", 1)
	wantNone(t, "a&b", 1)
	wantNone(t, "/*/", 0)
	wantNone(t, "é", 0)
	if line, column := lex.Place("a\nbc", 3); line != 2 || column != 2 {
		t.Errorf("L3: Place of 3 in a, byte 10, b, c: %d, %d, want 2, 2", line, column)
	}
}

// TestEveryByte: L1, what begins with a byte that stands alone.
func TestEveryByte(t *testing.T) {
	for i := range 256 {
		b := byte(i)
		src := string([]byte{b})
		switch {
		case strings.IndexByte(" \t\n\r", b) >= 0:
			wantTokens(t, src)
		case b >= 'A' && b <= 'Z' || b >= 'a' && b <= 'z':
			wantTokens(t, src, tok(word, src, 0))
		case b >= '0' && b <= '9':
			wantTokens(t, src, tok(number, src, 0))
		case strings.IndexByte("+-*/%<>!=(){},;:?.", b) >= 0:
			wantTokens(t, src, tok(sign, src, 0))
		default:
			wantNone(t, src, 0)
			wantNone(t, " \n"+src+"@", 2)
		}
	}
}

// TestBytesBehind: L1, how far a word and a number go.
func TestBytesBehind(t *testing.T) {
	for i := range 256 {
		b := byte(i)
		next := string([]byte{b})
		letter := b >= 'A' && b <= 'Z' || b >= 'a' && b <= 'z' || b == '_'
		digit := b >= '0' && b <= '9'
		if letter || digit {
			wantTokens(t, "q"+next, tok(word, "q"+next, 0))
			wantTokens(t, "Q"+next+"9_z", tok(word, "Q"+next+"9_z", 0))
		}
		if digit {
			wantTokens(t, "7"+next, tok(number, "7"+next, 0))
		}
		if letter {
			wantNone(t, "7"+next, 1)
			wantNone(t, " 70"+next+"@", 3)
		}
		if !letter && !digit && strings.IndexByte(" \t\n\r+-*/%<>!=(){},;:?.", b) < 0 {
			wantNone(t, "q"+next, 1)
			wantNone(t, "7"+next, 1)
		}
	}
}

// TestWordsEnd: L1, a word has at most MaxName bytes.
func TestWordsEnd(t *testing.T) {
	longest := "Az09_" + strings.Repeat("z", api.MaxName-5)
	wantTokens(t, longest, tok(word, longest, 0))
	wantTokens(t, longest+" "+longest+";", tok(word, longest, 0), tok(word, longest, 17), tok(sign, ";", 33))
	wantTokens(t, longest+"/**/z", tok(word, longest, 0), tok(word, "z", 20))
	wantNone(t, longest+"z", 0)
	wantNone(t, longest+"9", 0)
	wantNone(t, longest+"_", 0)
	wantNone(t, "z "+longest+"z@", 2)
	wantNone(t, longest+"é", 16)
	wantNone(t, strings.Repeat("a", api.MaxSource), 0)
	wantNone(t, "_", 0)
	wantNone(t, "_a", 0)
	wantNone(t, "a;_a", 2)
	wantTokens(t, "a__", tok(word, "a__", 0))
}

// TestMeaningWords: L1, words that mean something are words like others.
func TestMeaningWords(t *testing.T) {
	for _, w := range lex.Words() {
		wantTokens(t, w, tok(word, w, 0))
		wantTokens(t, w+"1", tok(word, w+"1", 0))
		wantTokens(t, "x "+w+"{", tok(word, "x", 0), tok(word, w, 2), tok(sign, "{", 2+len(w)))
	}
}

// TestNumbers: L1, which digits are a number.
func TestNumbers(t *testing.T) {
	for _, n := range []string{"0", "1", "9", "10", "100", "1234567890", "999999999999999999", "1000000000000000000", "9223372036854775799", "9223372036854775806", greatest} {
		wantTokens(t, n, tok(number, n, 0))
		wantTokens(t, "-"+n+".", tok(sign, "-", 0), tok(number, n, 1), tok(sign, ".", 1+len(n)))
		wantNone(t, n+"x", len(n))
		wantNone(t, n+"_1", len(n))
		wantNone(t, "0"+n, 0)
		wantNone(t, "a=00"+n, 2)
	}
	for _, n := range []string{
		"9223372036854775808", "9223372036854775810", "9223372036854776000", "9300000000000000000", "10000000000000000000", "18446744073709551615",
		"18446744073709551616", "18446744073709551617", "92233720368547758070", "99999999999999999999", strings.Repeat("9", api.MaxSource-3), "1" + strings.Repeat("0", 64),
	} {
		wantNone(t, n, 0)
		wantNone(t, "-"+n, 1)
		wantNone(t, " "+n+"x", 1)
	}
	wantNone(t, "00", 0)
	wantNone(t, "00x", 0)
	wantNone(t, "0x10", 1)
	wantNone(t, "0_", 1)
	wantTokens(t, "0 0", tok(number, "0", 0), tok(number, "0", 2))
	wantTokens(t, "1/**/2//\n3", tok(number, "1", 0), tok(number, "2", 5), tok(number, "3", 9))
	wantTokens(t, "1.50", tok(number, "1", 0), tok(sign, ".", 1), tok(number, "50", 2))
	wantNone(t, "1.05", 2)
	wantTokens(t, "1/**/x", tok(number, "1", 0), tok(word, "x", 5))
	wantTokens(t, "+1", tok(sign, "+", 0), tok(number, "1", 1))
	wantNone(t, "1é", 1)
}

// TestSigns: L1, one of two bytes goes ahead of one of one.
func TestSigns(t *testing.T) {
	for _, s := range strings.Fields("== != <= >= && || + - * / % < > ! = ( ) { } , ; : ? .") {
		wantTokens(t, s, tok(sign, s, 0))
		wantTokens(t, "a"+s+"1", tok(word, "a", 0), tok(sign, s, 1), tok(number, "1", 1+len(s)))
		wantTokens(t, s+" "+s, tok(sign, s, 0), tok(sign, s, len(s)+1))
	}
	for _, s := range strings.Fields("== != <= >=") {
		wantTokens(t, s+s, tok(sign, s, 0), tok(sign, s, 2))
		wantTokens(t, s+"=", tok(sign, s, 0), tok(sign, "=", 2))
		wantTokens(t, s[:1]+" =", tok(sign, s[:1], 0), tok(sign, "=", 2))
	}
	wantTokens(t, "=<=>=!", tok(sign, "=", 0), tok(sign, "<=", 1), tok(sign, ">=", 3), tok(sign, "!", 5))
	wantTokens(t, "&&&&", tok(sign, "&&", 0), tok(sign, "&&", 2))
	wantTokens(t, "++--%%..::", tok(sign, "+", 0), tok(sign, "+", 1), tok(sign, "-", 2), tok(sign, "-", 3), tok(sign, "%", 4), tok(sign, "%", 5), tok(sign, ".", 6), tok(sign, ".", 7), tok(sign, ":", 8), tok(sign, ":", 9))
	wantNone(t, "&", 0)
	wantNone(t, "|", 0)
	wantNone(t, "&|", 0)
	wantNone(t, "&=", 0)
	wantNone(t, "& &", 0)
	wantNone(t, "&&&", 2)
	wantNone(t, "a|||b", 3)
}

// TestRemarks: L1, what goes between tokens.
func TestRemarks(t *testing.T) {
	for _, src := range []string{
		"", " ", "\t\r\n ", "//", "// x", "//\n", "///", "//*", "//*/", "//é\x00\xff\r@ 012", "/**/", "/***/", "/*/*/", "/*/ */", "/* /* */", "/*\n// */", "/* @ é\x00\xff 012 \" */",
		"/**//**/", "/**///", "//\n//\n", "// /*\n", " /* */ // \n\t",
	} {
		wantTokens(t, src)
		wantTokens(t, "a "+src, tok(word, "a", 0))
		wantTokens(t, src+"\nb", tok(word, "b", len(src)+1))
		wantTokens(t, "1"+src+"\n2", tok(number, "1", 0), tok(number, "2", len(src)+2))
		wantNone(t, src+"\n@", len(src)+1)
	}
	wantTokens(t, "// a\rb\nc", tok(word, "c", 7))
	wantTokens(t, "/**/a", tok(word, "a", 4))
	wantTokens(t, "/* a */ b */", tok(word, "b", 8), tok(sign, "*", 10), tok(sign, "/", 11))
	wantTokens(t, "*/", tok(sign, "*", 0), tok(sign, "/", 1))
	wantTokens(t, "/ /", tok(sign, "/", 0), tok(sign, "/", 2))
	wantTokens(t, "/ *", tok(sign, "/", 0), tok(sign, "*", 2))
	wantTokens(t, "a/", tok(word, "a", 0), tok(sign, "/", 1))
	wantTokens(t, "=//=\n=", tok(sign, "=", 0), tok(sign, "=", 5))
	wantTokens(t, "=/**/=", tok(sign, "=", 0), tok(sign, "=", 5))
	wantTokens(t, "a*//\n/b", tok(word, "a", 0), tok(sign, "*", 1), tok(sign, "/", 5), tok(word, "b", 6))
}

// TestRemarksWithoutEnd: L1, the fault is where a remark begins.
func TestRemarksWithoutEnd(t *testing.T) {
	for _, remark := range []string{"/*", "/*/", "/**", "/* *", "/* /", "/* * /", "/*//", "/*//\n", "/*\n@", "/* 012", "/*/**", "/*" + strings.Repeat("*", 5000)} {
		wantNone(t, remark, 0)
		wantNone(t, "a "+remark, 2)
		wantNone(t, "1"+remark, 1)
		wantNone(t, "/* */ // /*\n\n"+remark, 13)
	}
}

// TestFirstFault: L1, of several faults the one that is first from the left.
func TestFirstFault(t *testing.T) {
	wantNone(t, "@ /*", 0)
	wantNone(t, "/* @", 0)
	wantNone(t, "012 1x", 0)
	wantNone(t, "1x 012", 1)
	wantNone(t, "a & 012", 2)
	wantNone(t, "012x", 0)
	wantNone(t, greatest+"0x", 0)
	wantNone(t, "a1234567890123456 @", 0)
	wantNone(t, "// @\n1x", 6)
	wantNone(t, "1a1234567890123456789", 1)
}

// TestLong: L1, a source that is too long is that ahead of all else.
func TestLong(t *testing.T) {
	wantTokens(t, strings.Repeat(" ", api.MaxSource))
	wantTokens(t, strings.Repeat(" ", api.MaxSource-1)+"x", tok(word, "x", api.MaxSource-1))
	wantTokens(t, "/*"+strings.Repeat("é", api.MaxSource/2-2)+"*/")
	wantNone(t, strings.Repeat(" ", api.MaxSource-1)+"@", api.MaxSource-1)
	wantNone(t, strings.Repeat("@", api.MaxSource), 0)
	wantNone(t, strings.Repeat(" ", api.MaxSource-2)+"/*", api.MaxSource-2)
	var each []api.Token
	for i := range api.MaxSource {
		each = append(each, tok(sign, ";", i))
	}
	wantTokens(t, strings.Repeat(";", api.MaxSource), each...)
	for _, size := range []int{api.MaxSource + 1, api.MaxSource + 2, 2 * api.MaxSource, 65536, 1 << 20} {
		for _, fill := range []string{" ", "@", "a", "0", "/*", ";", "\n", "\xff"} {
			wantFault(t, strings.Repeat(fill, size/len(fill)+1)[:size], api.MaxSource, api.ErrLong)
		}
	}
}

// TestWords: L2, all of them, in their order.
func TestWords(t *testing.T) {
	want := []string{
		"abs", "add", "die", "else", "emit", "func", "has", "if", "input", "let", "max", "me", "min", "rand", "reads", "remove", "repeat", "return",
		"spawn", "stop", "system", "tick", "while", "with", "without", "writes",
	}
	for range 2 {
		if got := lex.Words(); !slices.Equal(got, want) {
			t.Errorf("L2: Words: %v, want %v", got, want)
		}
	}
}

// TestPlace: L3, lines end behind their byte 10, columns count bytes.
func TestPlace(t *testing.T) {
	long := strings.Repeat("ab\n", api.MaxSource)
	for _, c := range []struct {
		src              string
		at, line, column int
	}{
		{"", 0, 1, 1}, {"", 1, 1, 1}, {"", -1, 1, 1}, {"", math.MaxInt, 1, 1}, {"", math.MinInt, 1, 1},
		{"a\nbc", 0, 1, 1}, {"a\nbc", 1, 1, 2}, {"a\nbc", 2, 2, 1}, {"a\nbc", 3, 2, 2}, {"a\nbc", 4, 2, 3}, {"a\nbc", 5, 2, 3},
		{"a\nbc", -1, 1, 1}, {"a\nbc", math.MinInt, 1, 1}, {"a\nbc", math.MaxInt, 2, 3},
		{"\n", 0, 1, 1}, {"\n", 1, 2, 1}, {"\n", 2, 2, 1}, {"\n\n\n", 2, 3, 1}, {"\n\n\n", 3, 4, 1}, {"\n\n\na", 4, 4, 2},
		{"a\rb\r\nc", 3, 1, 4}, {"a\rb\r\nc", 5, 2, 1}, {"a\rb\r\nc", 6, 2, 2},
		{"é\né", 2, 1, 3}, {"é\né", 1, 1, 2}, {"é\né", 5, 2, 3}, {"\u2028\n\x85\xff", 6, 2, 3}, {"\x00\x00", 2, 1, 3}, {"\v\f", 2, 1, 3},
		{long, len(long), api.MaxSource + 1, 1}, {long, len(long) - 1, api.MaxSource, 3}, {long, len(long) - 3, api.MaxSource, 1},
	} {
		if line, column := lex.Place(c.src, c.at); line != c.line || column != c.column {
			t.Errorf("L3: Place(%.20q, %d): %d, %d, want %d, %d", c.src, c.at, line, column, c.line, c.column)
		}
	}
}
