package analyzer

import "invariants/tree"

// entry is a loop that is come to with a state.
type entry[V comparable] struct {
	point int
	state state[V]
}

// passed is the state behind a loop, and whether what is within the loop has been told.
type passed[V comparable] struct {
	state state[V]
	told  bool
}

// loop goes round just once for each state with which a loop is come to: else loops within loops would take a time beyond all bounds.
// Nor need anything be told twice: a fact that has a state in it already stays as it is.
func (w walk[V]) loop(one tree.While, s state[V]) state[V] {
	here := entry[V]{one.Where(), s}
	if known, ok := w.loops[here]; ok && (known.told || w.found == nil) {
		return known.state
	}
	behind := w.around(one, s)
	w.loops[here] = passed[V]{behind, w.found != nil}
	return behind
}

// around takes the unrolled rounds one by one, then all others together, by one state. The block behind that one matters only to the report.
func (w walk[V]) around(one tree.While, s state[V]) state[V] {
	var out state[V]
	for range w.cfg.Unroll {
		w.comeTo(one.Where(), s)
		holds, fails := w.cond(one.Cond, s)
		out = w.join(out, fails)
		s = w.block(one.Block, holds)
	}
	s = w.all(one, s)
	w.comeTo(one.Where(), s)
	holds, fails := w.cond(one.Cond, s)
	if w.found != nil {
		w.block(one.Block, holds)
	}
	return w.join(out, fails)
}

// all is one state for all rounds from s on: it has in it each with which a round begins.
func (w walk[V]) all(one tree.While, s state[V]) state[V] {
	quiet := w.quiet()
	next := func(i state[V]) state[V] {
		holds, _ := quiet.cond(one.Cond, i)
		return w.join(s, quiet.block(one.Block, holds))
	}
	i := w.widened(s, next)
	for range w.cfg.Narrow {
		i = each(i, next(i), w.domain.Narrow)
	}
	return i
}

// widened goes on from i till a next one has nothing new.
func (w walk[V]) widened(i state[V], next func(state[V]) state[V]) state[V] {
	for k := 1; ; k++ {
		j := w.join(i, next(i))
		if j == i {
			return i
		}
		if k > w.cfg.Delay {
			j = each(i, j, w.domain.Widen)
		}
		i = j
	}
}
