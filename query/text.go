package query

import (
	"math"
	"slices"
	"strconv"
	"strings"

	"hindcast/api"
)

// Parse reads one (Q2).
func Parse(kinds []api.Kind, s string) (*Query, error) {
	q, bad := everybody(kinds)
	if bad != api.OK {
		return nil, &api.Fault{At: 0, Err: bad}
	}
	if fault := q.read(s); fault != nil {
		return nil, fault
	}
	return q, nil
}

// String writes it, in its one way (Q2).
func (q *Query) String() string {
	var with, without, bounds []string
	for i, kind := range q.kinds {
		own := q.boundsOf(i)
		bounds = append(bounds, own...)
		if has(q.with, i+1) && len(own) == 0 {
			with = append(with, kind.Name)
		}
		if has(q.without, i+1) {
			without = append(without, "!"+kind.Name)
		}
	}
	return strings.Join(slices.Concat(with, without, bounds), ", ")
}

func has(set int, kind int) bool { return set>>kind&1 != 0 }

// boundsOf writes the bounds of the kind at a place.
func (q *Query) boundsOf(place int) []string {
	var bounds []string
	for i, field := range q.kinds[place].Fields {
		if s := q.spans[place][i]; s != wide() {
			bounds = append(bounds, q.kinds[place].Name+"."+field+" "+s.text())
		}
	}
	return bounds
}

func (s span) text() string {
	least, most := strconv.FormatInt(s.least, 10), strconv.FormatInt(s.most, 10)
	switch {
	case s.least == s.most:
		return "== " + least
	case s.least == math.MinInt64:
		return "<= " + most
	case s.most == math.MaxInt64:
		return ">= " + least
	}
	return "in " + least + ".." + most
}

// A node is a term of a text: one of these three.
type (
	node    any
	needed  struct{ kind int }
	barred  struct{ kind int }
	bounded struct{ bound api.Bound }
)

// read narrows the query by all terms of a text, and tells where that is wrong, if it is.
func (q *Query) read(s string) (fault *api.Fault) {
	defer func() {
		if what := recover(); what != nil {
			fault = what.(*api.Fault)
		}
	}()
	r := &reader{kinds: q.kinds, s: s}
	r.next()
	if r.now.Kind == api.TokEnd {
		return nil
	}
	q.put(r.term())
	for r.now.Kind != api.TokEnd {
		r.take(",")
		q.put(r.term())
	}
	return nil
}

// put narrows the query by a term; none is kept, however many there are.
func (q *Query) put(n node) {
	switch n := n.(type) {
	case needed:
		q.need(n.kind)
	case barred:
		q.bar(n.kind)
	case bounded:
		q.narrow(n.bound)
	}
}

// reader goes through a text, token by token; what can't stand where it stands it gives up by a panic.
type reader struct {
	kinds []api.Kind
	s     string
	now   api.Token
	rest  int // the place behind the token
}

// giveUp tells that the token can't stand where it stands.
func (r *reader) giveUp() { panic(&api.Fault{At: r.now.At, Err: api.ErrQuery}) }

// take goes on behind a token that must be this one.
func (r *reader) take(text string) {
	if r.now.Text != text {
		r.giveUp()
	}
	r.next()
}

func (r *reader) term() node {
	if r.now.Text == "!" {
		r.next()
		return barred{kind: r.kind()}
	}
	kind := r.kind()
	if r.now.Text != "." {
		return needed{kind: kind}
	}
	r.next()
	field := r.field(kind)
	s := r.span()
	return bounded{bound: api.Bound{Kind: kind, Field: field, Least: s.least, Most: s.most}}
}

// kind reads a kind's name: its number.
func (r *reader) kind() int {
	return 1 + r.known(slices.IndexFunc(r.kinds, func(kind api.Kind) bool { return kind.Name == r.now.Text }))
}

// field reads the name of a kind's field: its place.
func (r *reader) field(kind int) int {
	return r.known(slices.Index(r.kinds[kind-1].Fields, r.now.Text))
}

// known goes on behind a name that was found at a place.
func (r *reader) known(place int) int {
	if place < 0 {
		r.giveUp()
	}
	r.next()
	return place
}

// span reads what stands behind a field.
func (r *reader) span() span {
	sign := r.now.Text
	if !slices.Contains([]string{"==", "<=", ">=", "<", ">", "in"}, sign) {
		r.giveUp()
	}
	r.next()
	a := r.number()
	switch sign {
	case "==":
		return span{least: a, most: a}
	case "<=":
		return span{least: math.MinInt64, most: a}
	case ">=":
		return span{least: a, most: math.MaxInt64}
	case "<":
		return below(a)
	case ">":
		return above(a)
	}
	r.take("..")
	return span{least: a, most: r.number()}
}

func below(a int64) span {
	if a == math.MinInt64 {
		return nothing()
	}
	return span{least: math.MinInt64, most: a - 1}
}

func above(a int64) span {
	if a == math.MaxInt64 {
		return nothing()
	}
	return span{least: a + 1, most: math.MaxInt64}
}

// nothing is the span below the least number, and above the greatest one: a - 1 and a + 1 would wrap there.
func nothing() span { return span{least: 1, most: 0} }

func (r *reader) number() int64 {
	n, err := strconv.ParseInt(r.now.Text, 10, 64)
	// Written again it is the same, but for noughts ahead and -0.
	if err != nil || strconv.FormatInt(n, 10) != r.now.Text {
		r.giveUp()
	}
	r.next()
	return n
}
