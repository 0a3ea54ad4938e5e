// Package congruence: the domain of values that all leave the same when they are divided by one number.
package congruence

import (
	"math"

	"invariants/api"
	"invariants/tree"
)

const (
	least = math.MinInt16
	most  = math.MaxInt16
	// turn is how far a number is from itself, once wrapped round.
	turn = 1 << 16
)

// Value is all numbers that leave the rest when they are divided by the modulus; if that is 0, the rest alone, which may be below 0.
type Value struct{ modulus, rest int64 }

func (x Value) alone() bool { return x.modulus == 0 }

func (x Value) has(n int64) bool { return class(x.modulus, n) == x }

// first is the least number of a run that is in a class. (There is one, for no modulus is above the turn.)
func (x Value) first() int64 { return least + left(x.rest-least, x.modulus) }

// class is all numbers that leave the same as n; n alone, if the modulus is 0.
func class(modulus, n int64) Value {
	if modulus == 0 {
		return Value{0, n}
	}
	return Value{modulus, left(n, modulus)}
}

// wrapped is a class of numbers that a run may wrap round: only what the modulus shares with the turn still holds of them then.
func wrapped(modulus, n int64) Value { return class(gcd(modulus, turn), n) }

// left is what n leaves. Unlike the remainder of a run it is never below 0.
func left(n, modulus int64) int64 { return (n%modulus + modulus) % modulus }

// gcd is the greatest common divisor of several numbers; that of 0 and n is n, without its sign.
func gcd(all ...int64) int64 {
	var g int64
	for _, n := range all {
		for n != 0 {
			g, n = n, g%n
		}
	}
	return max(g, -g)
}

// Domain is that of congruences.
type Domain struct{}

// Number is n alone.
func (Domain) Number(n int16) Value { return Value{0, int64(n)} }

// Whole is all that leave 0, divided by 1.
func (Domain) Whole() Value { return Value{1, 0} }

// Negate wraps round as a run does.
func (d Domain) Negate(x Value) Value {
	if x.alone() {
		return d.Number(-int16(x.rest))
	}
	return wrapped(x.modulus, -x.rest)
}

// Work is the value behind a sign; not ok behind a / or % by 0 alone.
func (d Domain) Work(op tree.Op, x, y Value) (Value, bool) {
	if x.alone() && y.alone() {
		n, ok := op.Work(int16(x.rest), int16(y.rest))
		return d.Number(n), ok
	}
	switch op {
	case tree.Add:
		return wrapped(gcd(x.modulus, y.modulus), x.rest+y.rest), true
	case tree.Subtract:
		return wrapped(gcd(x.modulus, y.modulus), x.rest-y.rest), true
	case tree.Multiply:
		return multiply(x, y), true
	}
	switch {
	case y == d.Number(0):
		return Value{}, false
	case op == tree.Divide:
		return d.Whole(), true
	}
	return remainder(x, y), true
}

// multiply takes 0 by itself: it stays a number alone, whatever the other side is.
func multiply(x, y Value) Value {
	nought := Value{}
	if x == nought || y == nought {
		return nought
	}
	return wrapped(gcd(x.modulus*y.modulus, x.modulus*y.rest, y.modulus*x.rest), x.rest*y.rest)
}

// remainder is x less so many times y: what divides the modulus of x and all of y has the same left of both. (Nothing wraps round here.)
func remainder(x, y Value) Value { return class(gcd(x.modulus, y.modulus, y.rest), x.rest) }

// HasNought tells whether 0 is in it.
func (Domain) HasNought(x Value) bool { return x.rest == 0 }

// Join is the class with the greatest modulus that has both in it.
func (Domain) Join(x, y Value) Value {
	return class(gcd(x.modulus, y.modulus, x.rest-y.rest), x.rest)
}

// meet is told by the numbers of a run alone; not ok, if none is in both.
func meet(x, y Value) (Value, bool) {
	if x.modulus < y.modulus {
		x, y = y, x
	}
	switch {
	case !y.alone():
		return meetClasses(x, y)
	case x.has(y.rest):
		return y, true
	}
	return Value{}, false
}

// meetClasses goes by the numbers of x, whose modulus is not the lesser one: so it takes 256 steps at most.
// What is in both comes again each apart: if one such stretch has nothing, there is nothing.
func meetClasses(x, y Value) (Value, bool) {
	apart := x.modulus / gcd(x.modulus, y.modulus) * y.modulus
	first := x.first()
	for n := first; n <= most && n < first+apart; n += x.modulus {
		if y.has(n) {
			return onward(n, apart), true
		}
	}
	return Value{}, false
}

// onward is the numbers of a run from n on, each apart from the next: n alone, if the next one is beyond.
func onward(n, apart int64) Value {
	if n+apart > most {
		return Value{0, n}
	}
	return class(apart, n)
}

// May tells whether a condition may hold.
func (Domain) May(relation tree.Relation, x, y Value) bool {
	if x.alone() && y.alone() {
		return relation.Holds(int16(x.rest), int16(y.rest))
	}
	if relation == tree.Equal {
		_, ok := meet(x, y)
		return ok
	}
	return true
}

// Bound is what is left of x by a condition with it on the left side: only == tells anything of what a division leaves.
func (Domain) Bound(relation tree.Relation, x, right Value) (Value, bool) {
	if relation == tree.Equal {
		return meet(x, right)
	}
	return x, true
}

// Widen need not leap: each join that is something new takes a lesser divisor, which soon ends.
func (Domain) Widen(_, y Value) Value { return y }

// Narrow has no leap to go back from.
func (Domain) Narrow(x, _ Value) Value { return x }

// Tell is the value as a report has it.
func (Domain) Tell(x Value) api.Value { return api.Value{A: x.modulus, B: x.rest} }
