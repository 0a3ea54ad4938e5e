package analyzer

import "invariants/tree"

// sum is the value of a sum in a state; not ok, if it has none.
func (w walk[V]) sum(sum tree.Sum, s state[V]) (value V, ok bool) {
	switch sum := sum.(type) {
	case tree.Number:
		return w.domain.Number(int16(sum)), true
	case tree.Name:
		return s.values[sum], true
	case tree.Negation:
		return w.negation(sum, s)
	case tree.Binary:
		return w.binary(sum, s)
	}
	return value, false
}

func (w walk[V]) negation(sum tree.Negation, s state[V]) (value V, ok bool) {
	value, ok = w.sum(sum.Of, s)
	if ok {
		value = w.domain.Negate(value)
	}
	return value, ok
}

func (w walk[V]) binary(sum tree.Binary, s state[V]) (value V, ok bool) {
	left, right, ok := w.sides(sum.Left, sum.Right, s)
	if !ok {
		return value, false
	}
	if sum.HasSite() {
		w.comeToSite(sum.Site, w.domain.HasNought(right))
	}
	return w.domain.Work(sum.Op, left, right)
}

// sides works the left side out ahead of the right one: if it has no value, no site of the right one is come to.
func (w walk[V]) sides(left, right tree.Sum, s state[V]) (x, y V, ok bool) {
	x, ok = w.sum(left, s)
	if ok {
		y, ok = w.sum(right, s)
	}
	return x, y, ok
}

// cond answers the states behind a condition and behind its opposite, for which its sides are worked out once.
func (w walk[V]) cond(c tree.Cond, s state[V]) (holds, fails state[V]) {
	if !s.reached {
		return holds, fails
	}
	left, right, ok := w.sides(c.Left, c.Right, s)
	if !ok {
		return holds, fails
	}
	behind := func(relation tree.Relation) state[V] {
		if !w.domain.May(relation, left, right) {
			return state[V]{}
		}
		return w.bound(c.Right, relation.Mirror(), left, w.bound(c.Left, relation, right, s))
	}
	return behind(c.Relation), behind(c.Opposite())
}

// bound is what a condition leaves of a state, by one side, if that is a name alone.
func (w walk[V]) bound(side tree.Sum, relation tree.Relation, other V, s state[V]) state[V] {
	name, ok := side.(tree.Name)
	if !ok || !s.reached {
		return s
	}
	value, ok := w.domain.Bound(relation, s.values[name], other)
	if !ok {
		return state[V]{}
	}
	s.values[name] = value
	return s
}
