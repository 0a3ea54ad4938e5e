package invariants_test

import "math/big"

// classes are the values in Congruences, as a second analysis has them.
type classes struct{}

// divisor is the greatest common one of several numbers.
func divisor(all ...int) int {
	g := new(big.Int)
	for _, n := range all {
		g.GCD(nil, nil, g, big.NewInt(int64(n)))
	}
	return int(g.Int64())
}

// leaves is what n leaves by a number; n itself by 0.
func leaves(n, by int) int {
	if by == 0 {
		return n
	}
	return int(new(big.Int).Mod(big.NewInt(int64(n)), big.NewInt(int64(by))).Int64())
}

// power is [k, v], as the document has it.
func power(k, v int) pair {
	a := 65536
	for k%a != 0 {
		a /= 2
	}
	return pair{a, leaves(v, a)}
}

// isIn tells whether a number is in a value.
func isIn(x pair, n int) bool { return leaves(n, x.a) == x.b }

func (classes) number(n int) pair { return pair{0, n} }

func (classes) whole() pair { return pair{1, 0} }

func (classes) negated(x pair) pair {
	if x.a == 0 {
		return pair{0, wrap(-x.b)}
	}
	return power(x.a, -x.b)
}

func (classes) hasNought(x pair) bool { return isIn(x, 0) }

func (classes) join(x, y pair) pair {
	a := divisor(x.a, y.a, x.b-y.b)
	return pair{a, leaves(x.b, a)}
}

// meet goes by all numbers that are in x, up to the second one that is in y too.
func (classes) meet(x, y pair) *pair {
	var both []int
	n, step := x.b, x.a
	if step == 0 {
		step = 65536
	} else {
		n -= (n + 32768) / step * step
	}
	for ; n <= 32767 && len(both) < 2; n += step {
		if isIn(y, n) {
			both = append(both, n)
		}
	}
	switch len(both) {
	case 0:
		return nil
	case 1:
		return &pair{0, both[0]}
	}
	apart := both[1] - both[0]
	return &pair{apart, leaves(both[0], apart)}
}

// machineWork is what a run works out of two numbers; nil, if it stops there.
func machineWork(sign string, x, y int) *pair {
	if y == 0 && (sign == "/" || sign == "%") {
		return nil
	}
	switch sign {
	case "+":
		return &pair{0, wrap(x + y)}
	case "-":
		return &pair{0, wrap(x - y)}
	case "*":
		return &pair{0, wrap(x * y)}
	case "/":
		return &pair{0, wrap(quotient(x, y))}
	}
	return &pair{0, wrap(x - quotient(x, y)*y)}
}

func (classes) between(sign string, x, y pair) *pair {
	nought := pair{0, 0}
	if x.a == 0 && y.a == 0 {
		return machineWork(sign, x.b, y.b)
	}
	var p pair
	switch sign {
	case "+":
		p = power(divisor(x.a, y.a), x.b+y.b)
	case "-":
		p = power(divisor(x.a, y.a), x.b-y.b)
	case "*":
		if x != nought && y != nought {
			p = power(divisor(x.a*y.a, x.a*y.b, y.a*x.b), x.b*y.b)
		}
	default:
		if y == nought {
			return nil
		}
		p = pair{1, 0}
		if sign == "%" {
			p.a = divisor(x.a, y.a, y.b)
			p.b = leaves(x.b, p.a)
		}
	}
	return &p
}

func (c classes) bounds(sign string, l, r pair) (left, right *pair, ok bool) {
	if l.a == 0 && r.a == 0 {
		holds := map[string]bool{"<": l.b < r.b, "<=": l.b <= r.b, "==": l.b == r.b, "!=": l.b != r.b, ">=": l.b >= r.b, ">": l.b > r.b}
		return nil, nil, holds[sign]
	}
	if sign == "==" {
		return &r, &l, c.meet(l, r) != nil
	}
	return nil, nil, true
}

func (classes) leap(_, j pair) pair { return j }

func (classes) back(i, _ pair) pair { return i }
