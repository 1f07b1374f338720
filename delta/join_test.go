package delta_test

import (
	"slices"
	"testing"

	"hindcast/api"
	"hindcast/delta"
)

// ahead, between and behind are rows that are told apart; whether somebody lives there does not count for Join.
func ahead() []byte { return pool(gens(1, 1), 0) }

func between() []byte { return pool(gens(2, 1)) }

func behind() []byte { return pool(gens(2, 1, 7), 1, 0) }

func firstOf(entries ...entry) []byte { return deltaOf(ahead(), between(), entries...) }

func secondOf(entries ...entry) []byte { return deltaOf(between(), behind(), entries...) }

func bothOf(entries ...entry) []byte { return deltaOf(ahead(), behind(), entries...) }

// who is the entity that two deltas name.
func who() api.Entity { return e(3, 4) }

// TestJoin: E4, what becomes of an entity that both name, case by case.
func TestJoin(t *testing.T) {
	made := func(parts ...api.Part) entry { return isNew(who(), parts...) }
	taken := func(parts ...api.Part) entry { return isGone(who(), parts...) }
	turned := func(from, to []api.Part) entry { return isChanged(who(), from, to) }
	for _, c := range []struct {
		why           string
		first, second entry
		both          []entry
	}{
		{"new, a value", made(p(1, 5, 6), p(2, 7)), turned(list(p(2, 7)), list(p(2, 8))), []entry{made(p(1, 5, 6), p(2, 8))}},
		{"new, a part comes", made(p(2, 7)), turned(nil, list(p(1, 5, 6), p(3))), []entry{made(p(1, 5, 6), p(2, 7), p(3))}},
		{"new, a part goes", made(p(1, 5, 6), p(2, 7)), turned(list(p(1, 5, 6)), nil), []entry{made(p(2, 7))}},
		{"new, its first part comes", made(), turned(nil, list(p(2, 7))), []entry{made(p(2, 7))}},
		{"new, its last part goes", made(p(3)), turned(list(p(3)), nil), []entry{made()}},
		{"new, all at once", made(p(1, 5, 6), p(2, 7)), turned(list(p(1, 5, 6), p(2, 7)), list(p(2, 8), p(3))), []entry{made(p(2, 8), p(3))}},

		{"new, gone", made(p(1, 5, 6), p(3)), taken(p(1, 5, 6), p(3)), nil},
		{"new, gone with nothing", made(), taken(), nil},

		{"a value twice", turned(list(p(2, 7)), list(p(2, 8))), turned(list(p(2, 8)), list(p(2, 9))), []entry{turned(list(p(2, 7)), list(p(2, 9)))}},
		{"a value there and back", turned(list(p(2, 7)), list(p(2, 8))), turned(list(p(2, 8)), list(p(2, 7))), nil},
		{"one of two values back", turned(list(p(1, 5, 6)), list(p(1, 7, 8))), turned(list(p(1, 7, 8)), list(p(1, 5, 8))), []entry{turned(list(p(1, 5, 6)), list(p(1, 5, 8)))}},
		{"a part comes and goes", turned(nil, list(p(3))), turned(list(p(3)), nil), nil},
		{"a part goes and comes", turned(list(p(2, 7)), nil), turned(nil, list(p(2, 7))), nil},
		{"a part without values goes and comes", turned(list(p(3)), nil), turned(nil, list(p(3))), nil},
		{"a part goes and comes as another", turned(list(p(2, 7)), nil), turned(nil, list(p(2, 8))), []entry{turned(list(p(2, 7)), list(p(2, 8)))}},
		{"a part comes, its value", turned(nil, list(p(2, 7))), turned(list(p(2, 7)), list(p(2, 8))), []entry{turned(nil, list(p(2, 8)))}},
		{"a value, its part goes", turned(list(p(2, 7)), list(p(2, 8))), turned(list(p(2, 8)), nil), []entry{turned(list(p(2, 7)), nil)}},
		{"of two kinds one each", turned(list(p(2, 7)), list(p(2, 8))), turned(list(p(1, 5, 6)), list(p(1, 0, 0))), []entry{turned(list(p(1, 5, 6), p(2, 7)), list(p(1, 0, 0), p(2, 8)))}},
		{"of two kinds one goes, one comes", turned(list(p(3)), nil), turned(nil, list(p(1, 5, 6))), []entry{turned(list(p(3)), list(p(1, 5, 6)))}},
		{"of three kinds one back", turned(list(p(1, 5, 6), p(2, 7)), list(p(2, 8))), turned(list(p(2, 8)), list(p(2, 7), p(3))), []entry{turned(list(p(1, 5, 6)), list(p(3)))}},
		{"all back", turned(list(p(1, 5, 6), p(2, 7)), list(p(2, 8), p(3))), turned(list(p(2, 8), p(3)), list(p(1, 5, 6), p(2, 7))), nil},

		{"a value, gone", turned(list(p(2, 7)), list(p(2, 8))), taken(p(1, 5, 6), p(2, 8)), []entry{taken(p(1, 5, 6), p(2, 7))}},
		{"a part comes, gone", turned(nil, list(p(3))), taken(p(2, 7), p(3)), []entry{taken(p(2, 7))}},
		{"its first part comes, gone", turned(nil, list(p(1, 5, 6))), taken(p(1, 5, 6)), []entry{taken()}},
		{"its last part goes, gone", turned(list(p(2, 7)), nil), taken(), []entry{taken(p(2, 7))}},
		{"a part goes, gone", turned(list(p(1, 5, 6)), nil), taken(p(2, 7), p(3)), []entry{taken(p(1, 5, 6), p(2, 7), p(3))}},

		{"gone, there again", taken(p(2, 7), p(3)), made(p(2, 7), p(3)), nil},
		{"gone, there again with nothing", taken(), made(), nil},
		{"gone, there with another value", taken(p(1, 5, 6), p(2, 7)), made(p(1, 5, 6), p(2, 8)), []entry{turned(list(p(2, 7)), list(p(2, 8)))}},
		{"gone, there with other parts", taken(p(1, 5, 6), p(2, 7)), made(p(2, 7), p(3)), []entry{turned(list(p(1, 5, 6)), list(p(3)))}},
		{"gone, there with all parts", taken(), made(p(1, 5, 6), p(2, 7), p(3)), []entry{turned(nil, list(p(1, 5, 6), p(2, 7), p(3)))}},
		{"gone, there with none", taken(p(1, 5, 6), p(3)), made(), []entry{turned(list(p(1, 5, 6), p(3)), nil)}},
	} {
		got, bad := delta.Join(three(), firstOf(c.first), secondOf(c.second))
		if bad != api.OK {
			t.Errorf("E4: %s: %v", c.why, bad)
		}
		wantBytes(t, "E4: "+c.why, got, bothOf(c.both...))
		// Other changes around it change nothing in it.
		around := func(x ...entry) []entry { return slices.Concat([]entry{isGone(e(3, 3))}, x, []entry{isNew(e(3, 5))}) }
		wantJoin(t, three(), firstOf(around(c.first)...), secondOf(c.second), bothOf(around(c.both...)...))
		wantJoin(t, three(), firstOf(c.first), secondOf(around(c.second)...), bothOf(around(c.both...)...))
	}
}

// TestJoinRefuses: E4, an entity that is not, behind the first delta, what the second one says that it was.
func TestJoinRefuses(t *testing.T) {
	made := func(parts ...api.Part) entry { return isNew(who(), parts...) }
	taken := func(parts ...api.Part) entry { return isGone(who(), parts...) }
	turned := func(from, to []api.Part) entry { return isChanged(who(), from, to) }
	for _, c := range []struct {
		why           string
		first, second entry
	}{
		{"new twice", made(p(3)), made(p(3))},
		{"new twice, with nothing", made(), made()},
		{"changed, then new", turned(nil, list(p(3))), made(p(3))},
		{"changed to nothing, then new with nothing", turned(list(p(3)), nil), made()},
		{"gone twice", taken(p(3)), taken(p(3))},
		{"gone twice, with nothing", taken(), taken()},
		{"gone, then changed", taken(p(2, 7)), turned(list(p(2, 7)), list(p(2, 8)))},
		{"gone, then a part comes", taken(), turned(nil, list(p(3)))},

		{"new, another value", made(p(2, 7)), turned(list(p(2, 6)), list(p(2, 8)))},
		{"new, another second value", made(p(1, 5, 6)), turned(list(p(1, 5, 7)), list(p(1, 5, 6)))},
		{"new, a part comes that it has", made(p(2, 7)), turned(nil, list(p(2, 8)))},
		{"new, a part comes as it has it", made(p(3)), turned(nil, list(p(3)))},
		{"new, a part goes that it has not", made(p(2, 7)), turned(list(p(3)), nil)},
		{"new, a value of what it has not", made(), turned(list(p(2, 7)), list(p(2, 8)))},
		{"new, one of two right", made(p(1, 5, 6), p(2, 7)), turned(list(p(1, 5, 6), p(2, 8)), nil)},

		{"new, gone with more", made(p(2, 7)), taken(p(2, 7), p(3))},
		{"new, gone with less", made(p(2, 7), p(3)), taken(p(2, 7))},
		{"new, gone with another value", made(p(2, 7)), taken(p(2, 8))},
		{"new, gone with another kind", made(p(2, 7)), taken(p(3))},

		{"a value, another value", turned(list(p(2, 7)), list(p(2, 8))), turned(list(p(2, 7)), list(p(2, 8)))},
		{"a value, its part comes", turned(list(p(2, 7)), list(p(2, 8))), turned(nil, list(p(2, 9)))},
		{"a part goes twice", turned(list(p(3)), nil), turned(list(p(3)), nil)},
		{"a part comes twice", turned(nil, list(p(3))), turned(nil, list(p(3)))},
		{"a part goes, its value", turned(list(p(2, 7)), nil), turned(list(p(2, 7)), list(p(2, 8)))},
		{"one of two right in both", turned(list(p(1, 5, 6), p(2, 7)), list(p(1, 6, 6), p(2, 8))), turned(list(p(1, 6, 6), p(2, 7)), list(p(1, 0, 0), p(2, 8)))},

		{"a value, gone with the one ahead", turned(list(p(2, 7)), list(p(2, 8))), taken(p(2, 7))},
		{"a value, gone without it", turned(list(p(2, 7)), list(p(2, 8))), taken(p(3))},
		{"a part goes, gone with it", turned(list(p(3)), nil), taken(p(3))},
		{"a part comes, gone without it", turned(nil, list(p(3))), taken(p(2, 7))},
		{"one of two right, gone", turned(nil, list(p(1, 5, 6), p(3))), taken(p(1, 5, 6))},
	} {
		wantNoJoin(t, c.why, three(), firstOf(c.first), secondOf(c.second))
		wantNoJoin(t, c.why, three(), firstOf(isGone(e(0, 1)), c.first), secondOf(c.second, isNew(e(9, 9))))
	}
}

// TestJoinOthers: E4, of entities that one delta names the change stays as it stands; all are told by rising numbers and generations.
func TestJoinOthers(t *testing.T) {
	a, b, c := isNew(e(0, 7), p(3)), isGone(e(1, 2), p(1, 5, 6)), isChanged(e(1, 3), list(p(2, 7)), list(p(2, 8), p(3)))
	d, f, g := isGone(e(1, 4)), isNew(e(198, 1)), isChanged(e(199, api.MaxGen), list(p(3)), nil)
	all := bothOf(a, b, c, d, f, g)
	wantJoin(t, three(), firstOf(a, b, c, d, f, g), secondOf(), all)
	wantJoin(t, three(), firstOf(), secondOf(a, b, c, d, f, g), all)
	wantJoin(t, three(), firstOf(a, c, f), secondOf(b, d, g), all)
	wantJoin(t, three(), firstOf(b, d, g), secondOf(a, c, f), all)
	wantJoin(t, three(), firstOf(d, f, g), secondOf(a, b, c), all)
	wantJoin(t, three(), firstOf(a, b, c), secondOf(d, f, g), all)
	wantJoin(t, three(), firstOf(), secondOf(), bothOf())
	// One number with two generations is two entities, whatever becomes of them.
	wantJoin(t, three(), firstOf(isGone(e(5, 1)), isNew(e(5, 2), p(3))), secondOf(isGone(e(5, 2), p(3)), isNew(e(5, 3), p(3))), bothOf(isGone(e(5, 1)), isNew(e(5, 3), p(3))))
	wantJoin(t, three(), firstOf(isNew(e(5, 1))), secondOf(isNew(e(5, 2))), bothOf(isNew(e(5, 1)), isNew(e(5, 2))))
	wantJoin(t, three(), firstOf(isGone(e(5, 2), p(3))), secondOf(isGone(e(5, 1), p(3))), bothOf(isGone(e(5, 1), p(3)), isGone(e(5, 2), p(3))))
}

// TestJoinRows: E4, the rows behind the first are those ahead of the second; those of the answer are the outer ones, as they stand.
func TestJoinRows(t *testing.T) {
	x := isNew(e(0, 1), p(3))
	for why, rows := range map[string][]byte{
		"other generations":    pool(gens(2, 2)),
		"a generation more":    pool(gens(2, 1, 1)),
		"a generation less":    pool(gens(2)),
		"a free row":           pool(gens(2, 1), 0),
		"the rows of one else": ahead(),
		"no rows":              pool(nil),
		"rows turned round":    slices.Concat([]byte{0}, pool(gens(2, 1))[:4]),
	} {
		wantNoJoin(t, why, three(), firstOf(x), deltaOf(rows, behind()))
		wantNoJoin(t, why, three(), deltaOf(ahead(), rows, x), secondOf())
		wantNoJoin(t, why, three(), firstOf(), deltaOf(rows, behind()))
	}
	odd, other := pool(gens(-1, 1<<62, 0), 5, 5), pool(nil, -3)
	wantJoin(t, three(), deltaOf(odd, other, x), deltaOf(other, odd), deltaOf(odd, odd, x))
	wantJoin(t, three(), deltaOf(odd, odd), deltaOf(odd, other, x), deltaOf(odd, other, x))
}

// TestJoinForm: E4, both must have the form, of these kinds.
func TestJoinForm(t *testing.T) {
	right := deltaOf(pool(nil), pool(nil))
	for why, wrong := range map[string][]byte{
		"nothing":                   nil,
		"a byte left over":          append(slices.Clone(right), 0),
		"a What 4":                  unhex(t, "00 00 00 00 01 00 01 04"),
		"an entity twice":           deltaOf(pool(nil), pool(nil), isGone(e(0, 1)), isGone(e(0, 1))),
		"no touched kind":           deltaOf(pool(nil), pool(nil), isChanged(e(0, 1), nil, nil)),
		"a value that stays":        deltaOf(pool(nil), pool(nil), isChanged(e(0, 1), list(p(2, 7)), list(p(2, 7)))),
		"a kind that there is not":  deltaOf(pool(nil), pool(nil), isNew(e(0, 1), p(4))),
		"a value too few":           deltaOf(pool(nil), pool(nil), isNew(e(0, 1), p(1, 5))),
		"a generation 0":            deltaOf(pool(nil), pool(nil), isNew(e(0, 0))),
		"a number that there isn't": deltaOf(pool(nil), pool(nil), isNew(e(200, 1))),
	} {
		wantNoJoin(t, why, three(), wrong, right)
		wantNoJoin(t, why, three(), right, wrong)
		wantNoJoin(t, why, three(), wrong, wrong)
	}
	wantJoin(t, three(), right, right, right)
	one := deltaOf(pool(nil), pool(nil), isNew(e(0, 1), p(1, 7)))
	wantJoin(t, two(), one, right, one)
	wantNoJoin(t, "other kinds", three(), one, right)
}

// TestJoinKinds: E4, kinds that may not be, ahead of all that is wrong with the bytes.
func TestJoinKinds(t *testing.T) {
	for why, kinds := range wrongKinds() {
		for _, d := range [][]byte{make([]byte, 5), nil, {1, 2, 3}} {
			if got, bad := delta.Join(kinds, d, d); got != nil || bad != api.ErrKinds {
				t.Errorf("E4: %s: % x, %v", why, got, bad)
			}
		}
	}
	wantJoin(t, twelve(), make([]byte, 5), make([]byte, 5), make([]byte, 5))
}
