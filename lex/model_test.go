package lex_test

import (
	"math/big"
	"math/rand"
	"regexp"
	"slices"
	"strings"
	"testing"

	"hindcast/api"
	"hindcast/lex"
)

// What may stand at a place, as the chapter's words say it.
var (
	blankForm  = regexp.MustCompile(`^(?s:[ \t\n\r]|//[^\n]*|/\*.*?\*/)`)
	wordForm   = regexp.MustCompile(`^[A-Za-z][A-Za-z0-9_]*`)
	numberForm = regexp.MustCompile(`^[0-9]+`)
	signForm   = regexp.MustCompile(`^(?:==|!=|<=|>=|&&|\|\||[-+*/%<>!=(){},;:?.])`)
	mostForm   = regexp.MustCompile(`^(?:0|[1-9][0-9]*)$`)
	onForm     = regexp.MustCompile(`^[A-Za-z_]`)
)

// isRight tells whether digits are a number.
func isRight(digits string) bool {
	n, _ := new(big.Int).SetString(digits, 10)
	return mostForm.MatchString(digits) && n.IsInt64()
}

// read is what a source has: its tokens, or the place of its first fault, which is -1 if there is none.
func read(src string) (tokens []api.Token, fault int) {
	for at := 0; at < len(src); {
		rest := src[at:]
		if blank := blankForm.FindString(rest); blank != "" {
			at += len(blank)
			continue
		}
		token := tok(sign, signForm.FindString(rest), at)
		if text := wordForm.FindString(rest); text != "" {
			token = tok(word, text, at)
		} else if text := numberForm.FindString(rest); text != "" {
			token = tok(number, text, at)
		}
		behind := rest[len(token.Text):]
		switch {
		case token.Text == "", strings.HasPrefix(rest, "/*"), token.Kind == word && len(token.Text) > 16, token.Kind == number && !isRight(token.Text):
			return nil, at
		case token.Kind == number && onForm.MatchString(behind):
			return nil, at + len(token.Text)
		}
		tokens = append(tokens, token)
		at += len(token.Text)
	}
	return append(tokens, tok(end, "", len(src))), -1
}

// compare holds all that is promised of a source against the model, and tells whether it is one.
func compare(t *testing.T, src string) bool {
	t.Helper()
	if len(src) > 8000 {
		wantFault(t, src, 8000, api.ErrLong)
		return false
	}
	want, fault := read(src)
	if fault >= 0 {
		wantFault(t, src, fault, api.ErrToken)
		return false
	}
	got, err := lex.Lex(src)
	if err != nil || !slices.Equal(got, want) {
		t.Errorf("L1: Lex(%q): %v, %v, want %v", src, got, err, want)
		return false
	}
	wantRising(t, src, got)
	wantAgain(t, got)
	return true
}

// wantRising: what follows, tokens have rising places, and stand at them.
func wantRising(t *testing.T, src string, tokens []api.Token) {
	t.Helper()
	free := 0
	for _, token := range tokens {
		if token.At < free || !strings.HasPrefix(src[token.At:], token.Text) || token.Text == "" && token.Kind != end {
			t.Errorf("L1: Lex(%q): %v does not stand at its place, behind the others", src, token)
		}
		free = token.At + len(token.Text)
	}
}

// wantAgain: what follows, tokens with a blank between each two are the same again.
func wantAgain(t *testing.T, tokens []api.Token) {
	t.Helper()
	var want []api.Token
	src := ""
	for i, token := range tokens[:len(tokens)-1] {
		if i > 0 {
			src += " "
		}
		want = append(want, tok(token.Kind, token.Text, len(src)))
		src += token.Text
	}
	if len(src) <= 8000 {
		wantTokens(t, src, want...)
	}
}

// texts are all that can be written with some bytes, up to a size.
func texts(letters string, size int) []string {
	list := []string{""}
	for begin := 0; size > 0; size-- {
		rest := list[begin:]
		begin = len(list)
		for _, text := range rest {
			for i := range len(letters) {
				list = append(list, text+letters[i:i+1])
			}
		}
	}
	return list
}

// TestShort: L1, every short source of bytes that stand for all others.
func TestShort(t *testing.T) {
	for _, src := range slices.Concat(texts("/* \na0=", 5), texts("aZ_09+-*/%<>!=&|(){},;:?. \t\n\r#\x00\xc3\xa9", 2), texts("a_01<=!&|/@", 4)) {
		compare(t, src)
	}
}

// TestPairs: L1, every two bytes, also behind a word, a number, a sign and a remark.
func TestPairs(t *testing.T) {
	for i := range 256 {
		for k := range 256 {
			compare(t, string([]byte{byte(i), byte(k)}))
		}
		for _, ahead := range []string{"a", "1", "=", "/", "/**/", "//", "/*"} {
			compare(t, ahead+string([]byte{byte(i)})+"*/b")
		}
	}
}

// pieces are what random sources are made of.
func pieces() []string {
	return append(lex.Words(), "x", "Pos", "a_1", "a234567890123456", "Z23456789012345_7", "0", "7", "10", "01", greatest, "9223372036854775808", "_", "@", "é", "\xff", "\x00",
		" ", "\t", "\n", "\r", "//", "/*", "*/", "// r\n", "/* r */", "==", "!=", "<=", ">=", "&&", "||", "&", "|", "+", "-", "*", "/", "%", "<", ">", "!", "=", "(", ")", "{", "}", ",", ";", ":", "?", ".")
}

// TestModel: L1, sources that are put together at random.
func TestModel(t *testing.T) {
	from := rand.New(rand.NewSource(9))
	list, right := pieces(), 0
	for range 20000 {
		src := ""
		for range from.Intn(9) {
			src += list[from.Intn(len(list))]
			if from.Intn(2) == 0 {
				src += " "
			}
		}
		if compare(t, src) {
			right++
		}
	}
	if right < 5000 {
		t.Errorf("L1: just %d of the sources are right", right)
	}
}

// TestLongModel: L1, sources of about MaxSource bytes.
func TestLongModel(t *testing.T) {
	from := rand.New(rand.NewSource(99))
	list := strings.Fields("let x = Pos . y ; system S { } 12 0 <= && // /**/")
	for range 30 {
		var src strings.Builder
		for size := api.MaxSource - 20 + from.Intn(22); src.Len() < size; {
			src.WriteString(list[from.Intn(len(list))])
			src.WriteString(" \n"[from.Intn(2):][:1])
		}
		compare(t, src.String())
	}
}

// place is L3 as the chapter's words say it.
func place(src string, at int) (line int, column int) {
	line, column = 1, 1
	for i := 0; i < at && i < len(src); i++ {
		column++
		if src[i] == 10 {
			line, column = line+1, 1
		}
	}
	return line, column
}

func comparePlace(t *testing.T, src string, at int) {
	t.Helper()
	line, column := lex.Place(src, at)
	if wantLine, wantColumn := place(src, at); line != wantLine || column != wantColumn {
		t.Errorf("L3: Place(%q, %d): %d, %d, want %d, %d", src, at, line, column, wantLine, wantColumn)
	}
}

// TestPlaceModel: L3, at every place of every short source, and around it.
func TestPlaceModel(t *testing.T) {
	for _, src := range texts("\n\r\xc3a", 5) {
		for at := -2; at <= len(src)+2; at++ {
			comparePlace(t, src, at)
		}
	}
}

// FuzzLex: L1 and P1, at any source.
func FuzzLex(f *testing.F) {
	for _, piece := range pieces() {
		f.Add(piece, uint16(0))
	}
	f.Add("system Move reads Vel writes Pos { Pos.x = Pos.x + Vel.x; } // on", uint16(0))
	f.Add("a", uint16(8000))
	f.Fuzz(func(t *testing.T, src string, blanks uint16) {
		compare(t, src)
		compare(t, strings.Repeat(" ", int(blanks))+src)
	})
}

// FuzzPlace: L3 and P1, at any source and number.
func FuzzPlace(f *testing.F) {
	f.Add("a\nbc", 3)
	f.Add("", -1)
	f.Fuzz(func(t *testing.T, src string, at int) { comparePlace(t, src, at) })
}
