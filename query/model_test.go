package query_test

import (
	"errors"
	"math/big"
	"math/rand"
	"regexp"
	"slices"
	"strconv"
	"strings"
	"testing"

	"hindcast/api"
	"hindcast/query"
	"hindcast/world"
)

// meant tells, as the chapter's words do, whether a filter means an entity.
func meant(f api.Filter, row api.Row) bool {
	values := map[int][]int64{}
	for _, part := range row.Parts {
		values[part.Kind] = part.Values
	}
	for _, kind := range f.With {
		if _, has := values[kind]; !has {
			return false
		}
	}
	for _, kind := range f.Without {
		if _, has := values[kind]; has {
			return false
		}
	}
	for _, b := range f.Bounds {
		list, has := values[b.Kind]
		if !has || list[b.Field] < b.Least || list[b.Field] > b.Most {
			return false
		}
	}
	return true
}

// oneWay is a filter's one way, as the chapter's words say it.
func oneWay(f api.Filter) api.Filter {
	one := api.Filter{With: slices.Clone(f.With), Without: slices.Clone(f.Without)}
	most := map[[2]int]api.Bound{}
	for _, b := range f.Bounds {
		one.With = append(one.With, b.Kind)
		field := [2]int{b.Kind, b.Field}
		if old, found := most[field]; found {
			b.Least, b.Most = max(b.Least, old.Least), min(b.Most, old.Most)
		}
		most[field] = b
	}
	for _, b := range most {
		if b.Least > lowest || b.Most < highest {
			one.Bounds = append(one.Bounds, b)
		}
	}
	slices.Sort(one.With)
	one.With = slices.Compact(one.With)
	slices.Sort(one.Without)
	one.Without = slices.Compact(one.Without)
	slices.SortFunc(one.Bounds, func(a, b api.Bound) int { return 10*(a.Kind-b.Kind) + a.Field - b.Field })
	return one
}

// text is what String says of a one way.
func text(kinds []api.Kind, one api.Filter) string {
	var terms []string
	for _, kind := range one.With {
		if !slices.ContainsFunc(one.Bounds, func(b api.Bound) bool { return b.Kind == kind }) {
			terms = append(terms, kinds[kind-1].Name)
		}
	}
	for _, kind := range one.Without {
		terms = append(terms, "!"+kinds[kind-1].Name)
	}
	for _, b := range one.Bounds {
		name := kinds[b.Kind-1].Name + "." + kinds[b.Kind-1].Fields[b.Field]
		least, most := strconv.FormatInt(b.Least, 10), strconv.FormatInt(b.Most, 10)
		if b.Least == b.Most {
			terms = append(terms, name+" == "+least)
		} else if b.Least == lowest {
			terms = append(terms, name+" <= "+most)
		} else if b.Most == highest {
			terms = append(terms, name+" >= "+least)
		} else {
			terms = append(terms, name+" in "+least+".."+most)
		}
	}
	return strings.Join(terms, ", ")
}

var (
	tokens  = regexp.MustCompile(`^(?:[A-Za-z_][A-Za-z0-9_]*|-?[0-9][A-Za-z0-9_]*|\.\.|==|<=|>=|[<>,!.])`)
	numbers = regexp.MustCompile(`^(?:0|-?[1-9][0-9]*)$`)
)

// grammar goes through a text's tokens by what may stand next.
type grammar struct {
	kinds []api.Kind
	state string
	kind  int
	field int
	sign  string
	first int64
	f     api.Filter
}

// step takes a token, and tells whether it may stand there.
func (g *grammar) step(token string) bool {
	switch {
	case (g.state == "query" || g.state == "term") && token == "!":
		g.state = "not"
	case g.state == "query" || g.state == "term" || g.state == "not":
		place := slices.IndexFunc(g.kinds, func(kind api.Kind) bool { return kind.Name == token })
		if place < 0 {
			return false
		}
		g.kind = place + 1
		if g.state == "not" {
			g.f.Without = append(g.f.Without, g.kind)
			g.state = "end"
		} else {
			g.f.With = append(g.f.With, g.kind)
			g.state = "kind"
		}
	case g.state == "kind" && token == ".":
		g.state = "point"
	case (g.state == "kind" || g.state == "end") && token == ",":
		g.state = "term"
	case g.state == "point":
		g.field = slices.Index(g.kinds[g.kind-1].Fields, token)
		g.state = "field"
		return g.field >= 0
	case g.state == "field" && slices.Contains([]string{"==", "<=", ">=", "<", ">", "in"}, token):
		g.sign = token
		g.state = "number"
	case g.state == "number" && numbers.MatchString(token):
		return g.number(token)
	case g.state == "first" && token == "..":
		g.sign = ".."
		g.state = "number"
	default:
		return false
	}
	return true
}

// number takes a numeral, and the bound that ends with it.
func (g *grammar) number(token string) bool {
	a, _ := new(big.Int).SetString(token, 10)
	if !a.IsInt64() {
		return false
	}
	b := bound(g.kind, g.field, lowest, highest)
	below, above := new(big.Int).Sub(a, big.NewInt(1)), new(big.Int).Add(a, big.NewInt(1))
	switch g.sign {
	case "in":
		g.first = a.Int64()
		g.state = "first"
		return true
	case "..":
		b.Least, b.Most = g.first, a.Int64()
	case "==":
		b.Least, b.Most = a.Int64(), a.Int64()
	case "<=":
		b.Most = a.Int64()
	case ">=":
		b.Least = a.Int64()
	case "<":
		b.Most = below.Int64()
		if !below.IsInt64() {
			b.Least, b.Most = 1, 0
		}
	case ">":
		b.Least = above.Int64()
		if !above.IsInt64() {
			b.Least, b.Most = 1, 0
		}
	}
	g.f.Bounds = append(g.f.Bounds, b)
	g.state = "end"
	return true
}

// read is what a text means: a filter, and -1; or the place where it is wrong.
func read(kinds []api.Kind, s string) (api.Filter, int) {
	g := &grammar{kinds: kinds, state: "query"}
	for at := 0; ; {
		rest := strings.TrimLeft(s[at:], " ")
		at = len(s) - len(rest)
		if rest == "" {
			break
		}
		token := tokens.FindString(rest)
		if token == "" || !g.step(token) {
			return api.Filter{}, at
		}
		at += len(token)
	}
	if !slices.Contains([]string{"query", "kind", "end"}, g.state) {
		return api.Filter{}, len(s)
	}
	return g.f, -1
}

// anyKinds are some, with some fields.
func anyKinds(x *rand.Rand) []api.Kind {
	names := []string{"in", "Pos", "Vel", "P", "Po", "in_", "i", "A9", "a", "Dead", "K", "Kk"}
	x.Shuffle(len(names), func(i, k int) { names[i], names[k] = names[k], names[i] })
	var kinds []api.Kind
	for _, name := range names[:1+x.Intn(len(names))] {
		fields := []string{"x", "y", "in", "Pos", "xx"}
		x.Shuffle(len(fields), func(i, k int) { fields[i], fields[k] = fields[k], fields[i] })
		kinds = append(kinds, api.Kind{Name: name, Fields: fields[:x.Intn(api.MaxFields+1)]})
	}
	return kinds
}

// anyNumber is mostly a small one, now and then the least or the greatest, or next to it.
func anyNumber(x *rand.Rand) int64 {
	switch x.Intn(12) {
	case 0:
		return lowest + int64(x.Intn(2))
	case 1:
		return highest - int64(x.Intn(2))
	case 2:
		return int64(x.Uint64()) >> x.Intn(64)
	}
	return int64(x.Intn(9) - 4)
}

func anyFilter(x *rand.Rand, kinds []api.Kind) api.Filter {
	f := api.Filter{}
	for range x.Intn(3) {
		f.With = append(f.With, 1+x.Intn(len(kinds)))
	}
	for range x.Intn(3) {
		f.Without = append(f.Without, 1+x.Intn(len(kinds)))
	}
	for range x.Intn(4) {
		kind := x.Intn(len(kinds))
		if count := len(kinds[kind].Fields); count > 0 {
			b := bound(kind+1, x.Intn(count), anyNumber(x), anyNumber(x))
			if x.Intn(4) > 0 {
				b.Least, b.Most = min(b.Least, b.Most), max(b.Least, b.Most)
			}
			f.Bounds = append(f.Bounds, b)
		}
	}
	return f
}

func anyWorld(t *testing.T, x *rand.Rand, kinds []api.Kind) *world.World {
	t.Helper()
	w := fresh(t, kinds)
	for range x.Intn(30) {
		var parts []api.Part
		often := 1 + x.Intn(3)
		for _, place := range x.Perm(len(kinds)) {
			if x.Intn(4) >= often {
				continue
			}
			part := p(place + 1)
			for range kinds[place].Fields {
				part.Values = append(part.Values, anyNumber(x))
			}
			parts = append(parts, part)
		}
		spawn(t, w, parts...)
		if rows := w.Rows(); x.Intn(4) == 0 {
			w.Despawn(rows[x.Intn(len(rows))].E)
		}
	}
	return w
}

// wantAs holds all that a query answers against what its filter means by the chapter's words.
func wantAs(t *testing.T, q *query.Query, kinds []api.Kind, f api.Filter, w *world.World) {
	t.Helper()
	wantText(t, q, text(kinds, oneWay(f)))
	rows := slices.DeleteFunc(w.Rows(), func(row api.Row) bool { return !meant(f, row) })
	wantRows(t, q, w, rows...)
	for i, kind := range kinds {
		for k := range kind.Fields {
			wantField(t, q, w, i+1, k, rows)
		}
	}
	if t.Failed() {
		t.Fatalf("of the filter %v", f)
	}
}

// wantField holds Fold and Group against the rows of those that are meant.
func wantField(t *testing.T, q *query.Query, w *world.World, kind, field int, rows []api.Row) {
	t.Helper()
	sum := new(big.Int)
	counts := map[int64]int64{}
	var values []int64
	for _, row := range rows {
		for _, part := range row.Parts {
			if part.Kind == kind {
				n := part.Values[field]
				sum.Add(sum, big.NewInt(n))
				counts[n]++
				values = append(values, n)
			}
		}
	}
	if len(values) == 0 {
		wantFold(t, q, w, kind, field, 0, 0, 0)
		wantGroup(t, q, w, kind, field)
		return
	}
	slices.Sort(values)
	wrapped := new(big.Int).And(sum, new(big.Int).SetUint64(1<<64-1))
	wantFold(t, q, w, kind, field, int64(wrapped.Uint64()), values[0], values[len(values)-1])
	var groups [][2]int64
	for _, n := range slices.Compact(values) {
		groups = append(groups, [2]int64{n, counts[n]})
	}
	wantGroup(t, q, w, kind, field, groups...)
}

// TestAsTheWordsSay: Q1 to Q4, whatever is asked of whatever world; and what String writes means the same.
func TestAsTheWordsSay(t *testing.T) {
	x := rand.New(rand.NewSource(20))
	some := 0
	for range 150 {
		kinds := anyKinds(x)
		w := anyWorld(t, x, kinds)
		for range 6 {
			f := anyFilter(x, kinds)
			q, bad := query.New(kinds, f)
			if bad != api.OK {
				t.Fatalf("Q1: New(%v, %v): %v", kinds, f, bad)
			}
			wantAs(t, q, kinds, f, w)
			again, err := query.Parse(kinds, q.String())
			if err != nil {
				t.Fatalf("Q2: Parse(%q): %v", q, err)
			}
			wantAs(t, again, kinds, f, w)
			some += q.Count(w)
		}
	}
	if some < 500 {
		t.Errorf("only %d were meant", some)
	}
}

// TestSameOneWay: 'Words', a filter and its one way, and its parts in another order, are one query.
func TestSameOneWay(t *testing.T) {
	x := rand.New(rand.NewSource(21))
	for range 500 {
		kinds := anyKinds(x)
		w := anyWorld(t, x, kinds)
		f := anyFilter(x, kinds)
		one := oneWay(f)
		mixed := api.Filter{With: slices.Concat(f.With, f.With), Without: slices.Concat(f.Without, f.Without), Bounds: slices.Concat(f.Bounds, one.Bounds)}
		x.Shuffle(len(mixed.With), func(i, k int) { mixed.With[i], mixed.With[k] = mixed.With[k], mixed.With[i] })
		x.Shuffle(len(mixed.Bounds), func(i, k int) { mixed.Bounds[i], mixed.Bounds[k] = mixed.Bounds[k], mixed.Bounds[i] })
		for _, g := range []api.Filter{f, one, mixed} {
			q, bad := query.New(kinds, g)
			if bad != api.OK {
				t.Fatalf("Q1: New(%v, %v): %v", kinds, g, bad)
			}
			wantAs(t, q, kinds, f, w)
		}
	}
}

// wantReadAs holds what Parse says to a text against what the grammar says; it tells whether that is a query.
func wantReadAs(t *testing.T, kinds []api.Kind, s string, w *world.World) bool {
	t.Helper()
	f, at := read(kinds, s)
	q, err := query.Parse(kinds, s)
	if at < 0 {
		if err != nil || q == nil {
			t.Fatalf("Q2: Parse(%v, %q): %v, but it is a query", kinds, s, err)
		}
		wantAs(t, q, kinds, f, w)
		return true
	}
	var fault *api.Fault
	if q != nil || !errors.As(err, &fault) || *fault != (api.Fault{At: at, Err: api.ErrQuery}) {
		t.Fatalf("Q2: Parse(%v, %q): %v, %v, want ErrQuery at %d", kinds, s, q, err, at)
	}
	return false
}

// anyTerm is one that may stand, in any of the ways in which it may be written.
func anyTerm(x *rand.Rand, kinds []api.Kind) []string {
	kind := kinds[x.Intn(len(kinds))]
	if how := x.Intn(4); how == 0 {
		return []string{kind.Name}
	} else if how == 1 || len(kind.Fields) == 0 {
		return []string{"!", kind.Name}
	}
	term := []string{kind.Name, ".", kind.Fields[x.Intn(len(kind.Fields))]}
	a, b := strconv.FormatInt(anyNumber(x), 10), strconv.FormatInt(anyNumber(x), 10)
	if sign := x.Intn(6); sign < 5 {
		return append(term, []string{"==", "<=", ">=", "<", ">"}[sign], a)
	}
	return append(term, "in", a, "..", b)
}

// anyText is a query's, with blanks wherever they may be.
func anyText(x *rand.Rand, kinds []api.Kind) string {
	var list []string
	for i := range x.Intn(5) {
		if i > 0 {
			list = append(list, ",")
		}
		list = append(list, anyTerm(x, kinds)...)
	}
	s := strings.Repeat(" ", x.Intn(2))
	for i, token := range list {
		if token == "in" || i > 0 && list[i-1] == "in" {
			s += " " // two words would be one
		}
		s += token + strings.Repeat(" ", max(0, x.Intn(6)-3))
	}
	return s
}

// bruise is a text with something left out, put in, or cut off.
func bruise(x *rand.Rand, s string) string {
	pieces := []string{"Pos", "x", "in", ",", ".", "..", "!", "==", "<=", ">=", "<", ">", "=", "0", "-", "-0", "07", "9223372036854775808", " ", "_", "?", "\x00", "é", "\xff", "\t", "1", "a"}
	place := x.Intn(len(s) + 1)
	switch x.Intn(4) {
	case 0:
		return s[:place]
	case 1:
		return s[:place] + s[min(len(s), place+1+x.Intn(3)):]
	case 2:
		return s[:place] + pieces[x.Intn(len(pieces))] + s[place:]
	}
	return s[:place] + pieces[x.Intn(len(pieces))] + s[min(len(s), place+1):]
}

// TestTexts: Q2, texts that are queries, and those that are nearly one.
func TestTexts(t *testing.T) {
	x := rand.New(rand.NewSource(22))
	right, wrong := 0, 0
	for range 120 {
		kinds := anyKinds(x)
		w := anyWorld(t, x, kinds)
		for range 6 {
			s := anyText(x, kinds)
			if !wantReadAs(t, kinds, s, w) {
				t.Fatalf("%q should be a query of %v", s, kinds)
			}
			for range 12 {
				s = bruise(x, s)
				if wantReadAs(t, kinds, s, w) {
					right++
				} else {
					wrong++
				}
			}
		}
	}
	if right < 500 || wrong < 1000 {
		t.Errorf("only %d bruised texts were queries, %d were none", right, wrong)
	}
}

// FuzzParse: P1 and Q2, whatever text is handed in, Parse ends, and takes just what the grammar takes.
func FuzzParse(f *testing.F) {
	for _, s := range []string{"", "Vel, !Dead, Pos.x in 5..9", "Pos.y > 3, Pos", "Pos.z == 1", "Pos.x == 01", "Pos.x<-9223372036854775808,Pos.x>=-0", " ! Dead ,Vel.x in -1 ..2..", "Pos.x <= 9223372036854775808", "é\xff\x00="} {
		f.Add(s)
	}
	f.Fuzz(func(t *testing.T, s string) {
		w := crowd(t)
		wantReadAs(t, three(), s, w)
		others := []api.Kind{{Name: "in", Fields: []string{"in", "x"}}, {Name: "Pos", Fields: []string{"x", "Pos"}}}
		wantReadAs(t, others, s, fresh(t, others))
	})
}

// FuzzNew: P1 and Q1, whatever filter is handed in; four bytes are a kind that is asked for.
func FuzzNew(f *testing.F) {
	f.Add([]byte{0, 2, 0, 0, 0, 1, 0, 0, 1, 3, 0, 0, 2, 1, 0, 9, 3, 1, 0, 5})
	f.Add([]byte{2, 1, 2, 0, 0, 4, 0, 0})
	f.Add([]byte{2, 3, 0, 0})
	f.Fuzz(func(t *testing.T, b []byte) {
		filter := api.Filter{}
		for ; len(b) >= 4; b = b[4:] {
			kind, field, n := int(int8(b[1])), int(int8(b[2])), int64(int8(b[3]))
			switch b[0] % 5 {
			case 0:
				filter.With = append(filter.With, kind)
			case 1:
				filter.Without = append(filter.Without, kind)
			case 2:
				filter.Bounds = append(filter.Bounds, bound(kind, field, lowest, n))
			case 3:
				filter.Bounds = append(filter.Bounds, bound(kind, field, n, highest))
			case 4:
				filter.Bounds = append(filter.Bounds, bound(kind, field, n, int64(b[0])))
			}
		}
		q, bad := query.New(three(), filter)
		if want := refusal(three(), filter); bad != want || (q == nil) != (bad != api.OK) {
			t.Fatalf("Q1: New(%v): %v, want %v", filter, bad, want)
		}
		if bad == api.OK {
			wantAs(t, q, three(), filter, crowd(t))
		}
	})
}

// refusal is what New must say to a filter.
func refusal(kinds []api.Kind, f api.Filter) api.Errno {
	asked := slices.Concat(f.With, f.Without)
	for _, b := range f.Bounds {
		asked = append(asked, b.Kind)
	}
	for _, kind := range asked {
		if kind < 1 || kind > len(kinds) {
			return api.ErrKind
		}
	}
	for _, b := range f.Bounds {
		if b.Field < 0 || b.Field >= len(kinds[b.Kind-1].Fields) {
			return api.ErrField
		}
	}
	return api.OK
}
