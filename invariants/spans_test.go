package invariants_test

import (
	"slices"

	"invariants/tree"
)

// spans are the values in Intervals, as a second analysis has them; with the steps of widening, in their order.
type spans struct{ steps []int }

func newSpans(numbers []tree.Number, thresholds bool) spans {
	steps := []int{-32768, 32767}
	if thresholds {
		for _, n := range numbers {
			steps = append(steps, int(n), -int(n))
		}
	}
	slices.Sort(steps)
	return spans{steps}
}

var wholeSpan = pair{-32768, 32767}

// fit is from the least to the greatest of some numbers, if they all are within MIN to MAX.
func fit(all ...int) pair {
	p := pair{slices.Min(all), slices.Max(all)}
	if p.a < wholeSpan.a || p.b > wholeSpan.b {
		return wholeSpan
	}
	return p
}

func (spans) number(n int) pair { return pair{n, n} }

func (spans) whole() pair { return wholeSpan }

func (spans) negated(x pair) pair { return fit(-x.a, -x.b) }

func (spans) hasNought(x pair) bool { return x.a <= 0 && x.b >= 0 }

func (spans) join(x, y pair) pair { return pair{min(x.a, y.a), max(x.b, y.b)} }

func (spans) meet(x, y pair) *pair {
	p := pair{max(x.a, y.a), min(x.b, y.b)}
	if p.a > p.b {
		return nil
	}
	return &p
}

func (s spans) between(sign string, x, y pair) *pair {
	var p pair
	switch sign {
	case "+":
		p = fit(x.a+y.a, x.b+y.b)
	case "-":
		p = fit(x.a-y.b, x.b-y.a)
	case "*":
		p = fit(x.a*y.a, x.a*y.b, x.b*y.a, x.b*y.b)
	default:
		return s.over(sign, x, y)
	}
	return &p
}

// over is a quotient or a remainder; nil, if there is none.
func (s spans) over(sign string, x, y pair) *pair {
	var all []int
	for _, part := range []*pair{s.meet(y, pair{-32768, -1}), s.meet(y, pair{1, 32767})} {
		if part != nil {
			for _, n := range []int{x.a, x.b} {
				all = append(all, quotient(n, part.a), quotient(n, part.b))
			}
		}
	}
	if all == nil {
		return nil
	}
	if sign == "/" {
		p := fit(all...)
		return &p
	}
	m := max(size(y.a), size(y.b)) - 1
	rest := pair{}
	if x.a < 0 {
		rest.a = max(x.a, -m)
	}
	if x.b > 0 {
		rest.b = min(x.b, m)
	}
	return &rest
}

// bounds are what the two sides of a condition are met with; not ok, if it cannot hold.
func (s spans) bounds(sign string, l, r pair) (left, right *pair, ok bool) {
	lower, upper := wholeSpan, wholeSpan
	switch sign {
	case "<":
		lower.b, upper.a, ok = r.b-1, l.a+1, l.a < r.b
	case "<=":
		lower.b, upper.a, ok = r.b, l.a, l.a <= r.b
	case ">":
		lower.a, upper.b, ok = r.a+1, l.b-1, l.b > r.a
	case ">=":
		lower.a, upper.b, ok = r.a, l.b, l.b >= r.a
	case "==":
		lower, upper, ok = r, l, s.meet(l, r) != nil
	case "!=":
		ok = l != r || l.a != l.b
		lower, upper = without(l, r), without(r, l)
	}
	return &lower, &upper, ok
}

// without is x, but for an end that is the other one alone.
func without(x, other pair) pair {
	if other.a == other.b && x.a == other.a {
		x.a++
	} else if other.a == other.b && x.b == other.a {
		x.b--
	}
	return x
}

// leap goes by the steps in their order.
func (s spans) leap(i, j pair) pair {
	if j.a < i.a {
		at, exact := slices.BinarySearch(s.steps, j.a)
		if !exact {
			at--
		}
		i.a = s.steps[at]
	}
	if j.b > i.b {
		at, _ := slices.BinarySearch(s.steps, j.b)
		i.b = s.steps[at]
	}
	return i
}

func (spans) back(i, n pair) pair {
	if i.a == wholeSpan.a {
		i.a = n.a
	}
	if i.b == wholeSpan.b {
		i.b = n.b
	}
	return i
}
