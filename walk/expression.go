package walk

import "hindcast/syntax"

// value takes an expression; that of a truth is 1 or 0.
func (r *routine) value(n *syntax.Node) int64 {
	switch n.Op {
	case syntax.Number:
		return n.Num
	case syntax.Name:
		return r.variables[n.Num]
	case syntax.Field:
		return r.valuesWith(n)[n.L[0].Num]
	case syntax.Binary:
		return r.binary(n)
	case syntax.Unary:
		return unary(n.Text, r.value(n.L[0]))
	case syntax.Cond:
		if r.truth(n.L[0]) {
			return r.value(n.L[1])
		}
		return r.value(n.L[2])
	case syntax.Call:
		return r.call(n)
	case syntax.Has:
		_, has := r.parts[n.Num]
		return asNumber(has)
	}
	return r.word(n.Text)
}

func (r *routine) truth(n *syntax.Node) bool { return r.value(n) != 0 }

// values takes expressions from left to right.
func (r *routine) values(list []*syntax.Node) []int64 {
	var all []int64
	for _, n := range list {
		all = append(all, r.value(n))
	}
	return all
}

// binary takes the right operand only where the left one does not say all.
func (r *routine) binary(n *syntax.Node) int64 {
	left := r.value(n.L[0])
	if n.Text == "&&" && left == 0 || n.Text == "||" && left != 0 {
		return left
	}
	right := r.value(n.L[1])
	switch n.Text {
	case "&&", "||":
		return right
	case "+", "-", "*", "/", "%":
		return reckon(n.Text, left, right)
	}
	return asNumber(compare(n.Text, left, right))
}

// reckon leaves to Go what wraps: its quotient of the least number by -1 is that number, and its rest 0.
func reckon(sign string, left, right int64) int64 {
	switch {
	case sign == "+":
		return left + right
	case sign == "-":
		return left - right
	case sign == "*":
		return left * right
	case right == 0:
		return 0
	case sign == "/":
		return left / right
	}
	return left % right
}

func compare(sign string, left, right int64) bool {
	switch sign {
	case "==":
		return left == right
	case "!=":
		return left != right
	case "<":
		return left < right
	case "<=":
		return left <= right
	case ">":
		return left > right
	}
	return left >= right
}

func unary(sign string, x int64) int64 {
	if sign == "-" {
		return -x
	}
	return asNumber(x == 0)
}

// call is told from the built-in ones by their words, which no function has for its name.
func (r *routine) call(n *syntax.Node) int64 {
	given := r.values(n.L)
	switch n.Text {
	case "rand":
		return r.dice.Below(given[0])
	case "input":
		return r.inputs[button{given[0], given[1]}] // of none: 0
	case "min":
		return min(given[0], given[1])
	case "max":
		return max(given[0], given[1])
	case "abs":
		return max(given[0], -given[0]) // 0 less the least number is that number
	}
	r.step()
	return r.do(r.funcs[n.Num], given)
}

func (r *routine) word(text string) int64 {
	if text == "tick" {
		return int64(r.frame)
	}
	return int64(r.who.Index)
}

func asNumber(truth bool) int64 {
	if truth {
		return 1
	}
	return 0
}
