package query_test

import (
	"errors"
	"strings"
	"testing"

	"hindcast/api"
	"hindcast/query"
)

// wantFault parses what is refused: P5, the error is a fault with a place, which wraps its number; P2, and there is no query.
func wantFault(t *testing.T, kinds []api.Kind, s string, at int, want api.Errno) {
	t.Helper()
	q, err := query.Parse(kinds, s)
	var fault *api.Fault
	if q != nil || !errors.As(err, &fault) || fault.At != at || fault.Err != want || !errors.Is(err, want) {
		t.Errorf("Q2: Parse(%.80q): %v, %v, want %v at %d", s, q, err, want, at)
	}
}

func wantNoQuery(t *testing.T, kinds []api.Kind, s string, at int) {
	t.Helper()
	wantFault(t, kinds, s, at, api.ErrQuery)
}

// TestParse: Q2, what texts mean, told in the one way; and that text is told again as it is.
func TestParse(t *testing.T) {
	for s, want := range map[string]string{
		"":                 "",
		" ":                "",
		"     ":            "",
		"Pos":              "Pos",
		"  Pos  ":          "Pos",
		"Vel,Pos,Vel":      "Pos, Vel",
		"Dead":             "Dead",
		"!Dead":            "!Dead",
		" ! Dead ":         "!Dead",
		"!Dead,!Pos,!Dead": "!Pos, !Dead",
		"!Pos,Pos":         "Pos, !Pos",
		"!Dead , Vel,Pos":  "Pos, Vel, !Dead",
		"Pos.x==3":         "Pos.x == 3",
		"Pos.x==-3":        "Pos.x == -3",
		"Pos.x<=3":         "Pos.x <= 3",
		"Pos.x>=3":         "Pos.x >= 3",
		"Pos.x<3":          "Pos.x <= 2",
		"Pos.x>3":          "Pos.x >= 4",
		"Pos.x<0":          "Pos.x <= -1",
		"Pos.x>-1":         "Pos.x >= 0",
		"Pos.x<-3":         "Pos.x <= -4",
		"Pos.x in 3..9":    "Pos.x in 3..9",
		"Pos.x in-3..-2":   "Pos.x in -3..-2",
		"Pos.x in 3..3":    "Pos.x == 3",
		"Pos.x in 9..3":    "Pos.x in 9..3",
		"Pos.x in -9223372036854775808..9223372036854775807": "Pos",
		"Pos.x in -9223372036854775808..5":                   "Pos.x <= 5",
		"Pos.x in 5..9223372036854775807":                    "Pos.x >= 5",
		"Pos.x in 9223372036854775807..-9223372036854775808": "Pos.x in 9223372036854775807..-9223372036854775808",
		"Pos.x == -9223372036854775808":                      "Pos.x == -9223372036854775808",
		"Pos.x == 9223372036854775807":                       "Pos.x == 9223372036854775807",
		"Pos.x <= -9223372036854775808":                      "Pos.x == -9223372036854775808",
		"Pos.x >= 9223372036854775807":                       "Pos.x == 9223372036854775807",
		"Pos.x <= 9223372036854775807":                       "Pos",
		"Pos.x >= -9223372036854775808":                      "Pos",
		"Pos.x < 9223372036854775807":                        "Pos.x <= 9223372036854775806",
		"Pos.x > -9223372036854775808":                       "Pos.x >= -9223372036854775807",
		"Pos.x < -9223372036854775807":                       "Pos.x == -9223372036854775808",
		"Pos.x > 9223372036854775806":                        "Pos.x == 9223372036854775807",
		"Pos.x < -9223372036854775808":                       "Pos.x in 1..0",
		"Pos.x > 9223372036854775807":                        "Pos.x in 1..0",
		"Pos.x > 9223372036854775807, Pos.x >= -5":           "Pos.x in 1..0",
		"Pos.x < -9223372036854775808, Pos.x >= 5":           "Pos.x in 5..0",
		"Pos.x < -9223372036854775808, Pos.x <= -7":          "Pos.x in 1..-7",
		"Pos.x > 9, Pos.x < 12":                              "Pos.x in 10..11",
		"Pos.x > 9, Pos.x < 11, Pos":                         "Pos.x == 10",
		"Pos.x > 9, Pos.x < 10":                              "Pos.x in 10..9",
		"Vel.x > 0, Pos.y == 1, !Vel, Pos.x < 1":             "!Vel, Pos.x <= 0, Pos.y == 1, Vel.x >= 1",
		" Pos  .  y  ==  1  ,  !  Vel  ":                     "!Vel, Pos.y == 1",
		"   Pos . x   in   3   ..   9   ":                    "Pos.x in 3..9",
	} {
		wantText(t, parsed(t, s), want)
		wantText(t, parsed(t, want), want)
	}
}

// TestNames: Q2, names are taken whole, and by where they stand: in may be a kind's and a field's name.
func TestNames(t *testing.T) {
	kinds := []api.Kind{{Name: "in", Fields: []string{"in", "i", "inn"}}, {Name: "i", Fields: []string{"in_"}}, {Name: "A_9z", Fields: []string{"Z9_", "x1"}}, {Name: "a"}}
	for s, want := range map[string]string{
		"in":                              "in",
		"i,in":                            "in, i",
		"in.in in 1..2":                   "in.in in 1..2",
		"in.in==7,!in":                    "!in, in.in == 7",
		"in.inn in 2..2, i.in_ in 1..1":   "in.inn == 2, i.in_ == 1",
		"A_9z.Z9_ > 1, A_9z.x1 < 1, !a,a": "a, !a, A_9z.Z9_ >= 2, A_9z.x1 <= 0",
	} {
		q, err := query.Parse(kinds, s)
		if err != nil {
			t.Fatalf("Q2: Parse(%q): %v", s, err)
		}
		wantText(t, q, want)
	}
	for s, at := range map[string]int{
		"in_": 0, "A": 0, "A_9": 0, "A_9zz": 0, "IN": 0, "i.in == 1": 2, "in.in_ == 1": 3, "in.in inn 1..2": 6, "in.in in_1..2": 6, "in.in in1..2": 6,
		"in in": 3, "in.in": 5, "in.in in": 8, "in in in": 3, "a.in == 1": 2, "in.a == 1": 3, "i.A_9z == 1": 2, "A_9z.in_ == 1": 5,
	} {
		wantNoQuery(t, kinds, s, at)
	}
}

// TestNoQuery: Q2, the place of the first token that can't stand where it stands, or the text's length, if more should come.
func TestNoQuery(t *testing.T) {
	for s, at := range map[string]int{
		// The beginning of a term.
		",": 0, "  ,": 2, ",Pos": 0, "Pos,": 4, "Pos, ": 5, "Pos,,Vel": 4, "Pos, ,": 5, ".": 0, "..": 0, "==": 0, "5": 0, "-5": 0, "Nix": 0, "  Nix": 2,
		"pos": 0, "POS": 0, "Po": 0, "Poss": 0, "Pos_": 0, "_Pos": 0, "Pos1": 0, "1Pos": 0, "x": 0, "in": 0, "Pos, x": 5, "Pos, Nix": 5, "_": 0,
		// Behind !.
		"!": 1, "! ": 2, "!!": 1, "!!Dead": 1, "!,": 1, "! Nix": 2, "!5": 1, "!.": 1, "Pos, !": 6, "!=": 1, "!Pos.x == 1": 4, "!Pos . x": 5, "!Pos Vel": 5, "!Pos !Vel": 5,
		// Behind a kind.
		"Pos Vel": 4, "Pos !Vel": 4, "Pos 5": 4, "Pos == 5": 4, "Pos in 1..2": 4, "Pos..x": 3, "Pos -5": 4, "Pos\x00": 3, "Pos x": 4,
		// Behind its point.
		"Pos.": 4, "Pos. ": 5, "Pos.z": 4, "Pos.z == 1": 4, "Pos. z == 1": 5, "Pos.xy == 1": 4, "Pos.X == 1": 4, "Pos.Pos": 4, "Pos.5": 4, "Pos.,": 4, "Pos. .x": 5, "Pos.!x": 4, "Pos.in": 4,
		"Vel.y == 1": 4, "Dead.": 5, "Dead. ": 6, "Dead.x": 5, "Dead.x == 1": 5, "Dead . x == 1": 7, "Dead.,": 5, "Pos.x1 == 1": 4, "Pos._x == 1": 4,
		// Behind a field.
		"Pos.x": 5, "Pos.x ": 6, "Pos.x,": 5, "Pos.x, Vel": 5, "Pos.x 5": 6, "Pos.x = 1": 6, "Pos.x=": 5, "Pos.x != 1": 6, "Pos.x ! 1": 6, "Pos.x.y": 5, "Pos.x..y": 5, "Pos.x -1": 6, "Pos.x y": 6, "Pos.x x 1..2": 6, "Pos.x Pos": 6, "Pos.x IN 1..2": 6, "Pos.x i 1": 6, "Pos.x inn 1..2": 6, "Pos.x => 1": 6, "Pos.x in1..2": 6,
		// Behind a sign.
		"Pos.x ==": 8, "Pos.x == ": 9, "Pos.x <": 7, "Pos.x >": 7, "Pos.x <=": 8, "Pos.x >=": 8, "Pos.x in": 8, "Pos.x in ": 9, "Pos.x == ,": 9, "Pos.x == x": 9, "Pos.x == Pos": 9, "Pos.x == == 1": 9, "Pos.x === 1": 8, "Pos.x <== 1": 8, "Pos.x <> 1": 7, "Pos.x << 1": 7, "Pos.x >= = 1": 9, "Pos.x < = 1": 8, "Pos.x == !1": 9, "Pos.x in ..2": 9, "Pos.x in,": 8, "Pos.x == in": 9,
		// Behind a number.
		"Pos.x == 1 2": 11, "Pos.x == 1 Vel": 11, "Pos.x == 1.": 10, "Pos.x == 1..2": 10, "Pos.x == 1-2": 10, "Pos.x == 1 == 1": 11, "Pos.x == 1 in 1..2": 11, "Pos.x == 1 !Vel": 11, "Pos.x == 1,": 11, "Pos.x == 1, ": 12, "Pos.x == 1, Nix": 12, "Pos.x < 1 < 2": 10,
		"Pos.x in 1": 10, "Pos.x in 1 ": 11, "Pos.x in 1,2": 10, "Pos.x in 1.2": 10, "Pos.x in 1. .2": 10, "Pos.x in 1 2": 11, "Pos.x in 1-2": 10, "Pos.x in 1 to 2": 11,
		"Pos.x in 1..": 12, "Pos.x in 1.. ": 13, "Pos.x in 1...2": 12, "Pos.x in 1....2": 12, "Pos.x in 1..x": 12, "Pos.x in 1..,": 12, "Pos.x in 1..2..3": 13, "Pos.x in 1..2.": 13, "Pos.x in 1..2 3": 14, "Pos.x in 1..2 Pos": 14, "Pos.x in 1..2,": 14,
		// The first one is told, whatever stands behind it.
		"Nix, Nix": 0, "Pos, Nix, ,": 5, "Pos.x == 01, Nix": 9, "Pos.z == 01": 4, "Pos.x = 01": 6, "Pos.x in 01..02": 9, "Pos.x in 1..02 ?": 12, "Pos Nix ?": 4, "Pos ?": 4, "Pos.x == 1 ? 01": 11,
	} {
		wantNoQuery(t, three(), s, at)
		wantNoQuery(t, three(), "  "+s, at+2)
		wantNoQuery(t, three(), "!Dead, "+s, at+7)
		if at < len(s) {
			wantNoQuery(t, three(), s+"  ", at)
		} else {
			wantNoQuery(t, three(), s+"  ", at+2)
		}
	}
}

// TestNumbers: Q2, numerals that are numbers, and those that are none: noughts ahead, -0, beyond an int64, with letters.
func TestNumbers(t *testing.T) {
	for _, number := range []string{"0", "1", "-1", "9", "10", "-10", "100", "9223372036854775807", "-9223372036854775808", "9223372036854775806", "-9223372036854775807", "1000000000000000000"} {
		wantText(t, parsed(t, "Pos.x=="+number), "Pos.x == "+number)
	}
	for _, number := range []string{
		"00", "01", "-0", "-00", "-01", "007", "-09223372036854775808", "09223372036854775807", "0000000000000000000000001", "000000000000000000000000000000",
		"9223372036854775808", "-9223372036854775809", "9223372036854775810", "10000000000000000000", "18446744073709551615", "18446744073709551616", "18446744073709551617", "-18446744073709551616", "-18446744073709551617", "36893488147419103233",
		"1a", "1_", "1_000", "0x1", "0b1", "0o7", "1e3", "-1a", "-1_0", "0_", "1E0", "5Pos", "5in",
		strings.Repeat("9", 5000), "-" + strings.Repeat("9", 5000), strings.Repeat("0", 5000),
	} {
		for _, sign := range []string{"== ", "<= ", ">= ", "< ", "> ", "in ", "in 1.."} {
			s := "Pos.x " + sign
			wantNoQuery(t, three(), s+number, len(s))
			wantNoQuery(t, three(), s+number+"..2, Nix", len(s))
		}
	}
	// A - or + that no digit follows at once is no part of a numeral.
	for s, at := range map[string]int{"Pos.x == -": 9, "Pos.x == - 1": 9, "Pos.x == --1": 9, "Pos.x == -x": 9, "Pos.x == -_1": 9, "Pos.x == -.": 9, "Pos.x == +1": 9, "Pos.x == 1-": 10, "Pos.x == 1 -": 11, "Pos.x == .5": 9, "Pos.x == 1.5": 10} {
		wantNoQuery(t, three(), s, at)
	}
}

// TestNoToken: Q2, a byte that is no token may stand nowhere, and no byte but 32 is a blank.
func TestNoToken(t *testing.T) {
	good := "Pos, !Dead, Pos.x in 1..2"
	for c := range 256 {
		b := byte(c)
		if b == ' ' || b == '_' || b >= '0' && b <= '9' || b >= 'A' && b <= 'Z' || b >= 'a' && b <= 'z' || strings.IndexByte(".,!<>", b) >= 0 {
			continue
		}
		text := string([]byte{b})
		for _, place := range []int{0, 3, 4, 5, 6, 10, 15, 16, 17, 18, 20, 21, 24, 25} {
			if b == '-' && (place == 21 || place == 24) { // a number below 0
				continue
			}
			wantNoQuery(t, three(), good[:place]+text+good[place:], place)
		}
		wantNoQuery(t, three(), text, 0)
		wantNoQuery(t, three(), "  "+text+text, 2)
	}
	// Cut in two, a word that was known is none any more.
	for s, at := range map[string]int{"Po\x00s": 0, "Po\xc3\xa9s": 0, "é": 0, "Pos, é": 5, "Pos\u00a0": 3, "Pos\t, Vel": 3, "\xef\xbb\xbfPos": 0, "Pos\r\n": 3, "Pоs": 0, "Pos.x == ٣": 9, "Pos.x == 1٣": 10, "Pos.xé == 1": 5} {
		wantNoQuery(t, three(), s, at)
	}
}

// TestLongTexts: P1, texts of many terms, tokens and bytes are read to their end.
func TestLongTexts(t *testing.T) {
	const many = 100000
	wantText(t, parsed(t, strings.Repeat("Pos,", many)+"Vel"), "Pos, Vel")
	wantText(t, parsed(t, strings.Repeat("Pos.x > 3, !Dead, ", many)+"Vel"), "Vel, !Dead, Pos.x >= 4")
	wantText(t, parsed(t, strings.Repeat(" ", many)+"Pos"+strings.Repeat(" ", many)), "Pos")
	wantNoQuery(t, three(), strings.Repeat("Pos,", many), 4*many)
	wantNoQuery(t, three(), strings.Repeat("Pos,", many)+"Nix", 4*many)
	wantNoQuery(t, three(), strings.Repeat("!", many), 1)
	wantNoQuery(t, three(), strings.Repeat("Pos.", many), 4)
	wantNoQuery(t, three(), strings.Repeat("P", many), 0)
	wantNoQuery(t, three(), "Pos.x == "+strings.Repeat("1", many), 9)
}
