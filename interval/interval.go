// Package interval: the domain of values from one number to another.
package interval

import (
	"math"
	"slices"

	"invariants/api"
	"invariants/tree"
)

const (
	least = math.MinInt16
	most  = math.MaxInt16
)

// Value is all numbers from one to another, both within it.
type Value struct{ from, to int16 }

// ends are those of a value, as numbers that don't wrap round.
func (x Value) ends() (from, to int) { return int(x.from), int(x.to) }

func (x Value) alone() bool { return x.from == x.to }

// Domain is that of intervals, with the steps by which they are widened.
type Domain struct{ steps []int16 }

// New is a domain whose steps are the ends of the whole, and each number of a list on both sides of 0.
func New(numbers []tree.Number) Domain {
	steps := []int16{least, most}
	for _, n := range numbers {
		steps = append(steps, int16(n), -int16(n))
	}
	return Domain{steps}
}

// Number is from n to n.
func (Domain) Number(n int16) Value { return Value{n, n} }

// Whole is from the least number to the greatest.
func (Domain) Whole() Value { return Value{least, most} }

// Negate changes the ends about.
func (Domain) Negate(x Value) Value {
	a, b := x.ends()
	return hull(-b, -a)
}

// Work is the value behind a sign; not ok behind a / or % by 0 alone.
func (Domain) Work(op tree.Op, x, y Value) (Value, bool) {
	a, b := x.ends()
	c, d := y.ends()
	switch op {
	case tree.Add:
		return hull(a+c, b+d), true
	case tree.Subtract:
		return hull(a-d, b-c), true
	case tree.Multiply:
		return hull(a*c, a*d, b*c, b*d), true
	case tree.Divide:
		return divide(x, y)
	}
	return remainder(x, y)
}

// divide works quotients out in full: that of MIN and -1 is beyond the whole.
func divide(x, y Value) (Value, bool) {
	a, b := x.ends()
	var quotients []int
	for _, divisor := range endsBesideNought(y) {
		quotients = append(quotients, a/divisor, b/divisor)
	}
	if len(quotients) == 0 {
		return Value{}, false
	}
	return hull(quotients...), true
}

// endsBesideNought are the ends of what is left of a value without 0: of what is below it, and of what is above it.
func endsBesideNought(x Value) []int {
	from, to := x.ends()
	var ends []int
	if from < 0 {
		ends = append(ends, from, min(to, -1))
	}
	if to > 0 {
		ends = append(ends, max(from, 1), to)
	}
	return ends
}

// remainder has the sign of x, and is nearer to 0 than the divisor.
func remainder(x, y Value) (Value, bool) {
	a, b := x.ends()
	c, d := y.ends()
	m := max(-c, d) - 1
	if m < 0 {
		return Value{}, false
	}
	return hull(min(max(a, -m), 0), max(min(b, m), 0)), true
}

// hull is from the least to the greatest of some numbers; whole, if a run would wrap them round.
func hull(all ...int) Value {
	from, to := slices.Min(all), slices.Max(all)
	if from < least || to > most {
		return Value{least, most}
	}
	return Value{int16(from), int16(to)}
}

// HasNought tells whether 0 is within.
func (Domain) HasNought(x Value) bool { return x.from <= 0 && x.to >= 0 }

// Join is from the lesser to the greater end.
func (Domain) Join(x, y Value) Value { return Value{min(x.from, y.from), max(x.to, y.to)} }

// meet is from the greater to the lesser end; not ok, if that is nothing.
func meet(x, y Value) (Value, bool) {
	both := Value{max(x.from, y.from), min(x.to, y.to)}
	if both.from > both.to {
		return Value{}, false
	}
	return both, true
}

// May tells whether a condition may hold.
func (d Domain) May(relation tree.Relation, x, y Value) bool {
	switch relation {
	case tree.Less:
		return x.from < y.to
	case tree.LessEqual:
		return x.from <= y.to
	case tree.Equal:
		_, ok := meet(x, y)
		return ok
	case tree.NotEqual:
		return x != y || !x.alone()
	}
	return d.May(relation.Mirror(), y, x)
}

// Bound is what is left of x by a condition with it on the left side.
func (Domain) Bound(relation tree.Relation, x, right Value) (Value, bool) {
	switch relation {
	case tree.Less:
		return below(x, right.to)
	case tree.LessEqual:
		return meet(x, Value{least, right.to})
	case tree.Equal:
		return meet(x, right)
	case tree.NotEqual:
		return beside(x, right)
	case tree.GreaterEqual:
		return meet(x, Value{right.from, most})
	}
	return above(x, right.from)
}

// below is what is left of x below n. (Below the least number is nothing, and n - 1 would wrap round.)
func below(x Value, n int16) (Value, bool) {
	if n == least {
		return Value{}, false
	}
	return meet(x, Value{least, n - 1})
}

// above is what is left of x above n.
func above(x Value, n int16) (Value, bool) {
	if n == most {
		return Value{}, false
	}
	return meet(x, Value{n + 1, most})
}

// beside is what is left of x, if it loses a number alone that is at an end of it.
func beside(x, right Value) (Value, bool) {
	switch {
	case !right.alone():
		return x, true
	case x.from == right.from:
		return above(x, right.from)
	case x.to == right.to:
		return below(x, right.to)
	}
	return x, true
}

// Widen moves each end of x that y is beyond on to the nearest step that y is not beyond.
func (d Domain) Widen(x, y Value) Value {
	if y.from < x.from {
		x.from = d.stepBelow(y.from)
	}
	if y.to > x.to {
		x.to = d.stepAbove(y.to)
	}
	return x
}

// stepBelow is the greatest step that is no greater than n.
func (d Domain) stepBelow(n int16) int16 {
	step := int16(least)
	for _, s := range d.steps {
		if s <= n {
			step = max(step, s)
		}
	}
	return step
}

// stepAbove is the least step that is no less than n.
func (d Domain) stepAbove(n int16) int16 {
	step := int16(most)
	for _, s := range d.steps {
		if s >= n {
			step = min(step, s)
		}
	}
	return step
}

// Narrow takes y's end for each one of x that is as far out as it can be.
func (Domain) Narrow(x, y Value) Value {
	if x.from == least {
		x.from = y.from
	}
	if x.to == most {
		x.to = y.to
	}
	return x
}

// Tell is the value as a report has it.
func (Domain) Tell(x Value) api.Value { return api.Value{A: int64(x.from), B: int64(x.to)} }
