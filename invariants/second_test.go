package invariants_test

import (
	"slices"
	"testing"

	"invariants/api"
	"invariants/reader"
	"invariants/tree"
)

// span is the numbers from lo to hi.
type span struct{ lo, hi int }

var wholeSpan = span{-32768, 32767}

// world is a state; nil is none. One that is handed on is never written into.
type world *[api.Names]span

// second is an analysis in another way: each statement is made into a function from world to world, and loops within loops are gone round anew each time.
type second struct {
	cfg    api.Config
	steps  []int
	facts  []world
	sites  []int
	silent int // how many loops are looked for a state of just now
}

type change func(world) world

// fit is from the least to the greatest of some numbers, if they all are within MIN to MAX.
func fit(all ...int) *span {
	s := span{slices.Min(all), slices.Max(all)}
	if s.lo < wholeSpan.lo || s.hi > wholeSpan.hi {
		s = wholeSpan
	}
	return &s
}

func cut(x, y span) *span {
	s := span{max(x.lo, y.lo), min(x.hi, y.hi)}
	if s.lo > s.hi {
		return nil
	}
	return &s
}

func put(w world, name tree.Name, s *span) world {
	if w == nil || s == nil {
		return nil
	}
	copied := *w
	copied[name] = *s
	return &copied
}

func joined(one, other world) world {
	if one == nil {
		return other
	}
	if other == nil {
		return one
	}
	copied := *one
	for name, s := range other {
		copied[name] = span{min(s.lo, copied[name].lo), max(s.hi, copied[name].hi)}
	}
	return &copied
}

func alike(one, other world) bool {
	if one == nil || other == nil {
		return one == nil && other == nil
	}
	return *one == *other
}

func (a *second) comeTo(point int, w world) {
	if a.silent == 0 {
		a.facts[point] = joined(a.facts[point], w)
	}
}

func (a *second) atSite(site tree.Site, alarm bool) {
	switch {
	case a.silent > 0:
	case alarm:
		a.sites[site] = api.Alarm
	case a.sites[site] == api.Unreached:
		a.sites[site] = api.Safe
	}
}

// over is a quotient or a remainder; nil, if there is none.
func over(sign string, x, y span) *span {
	var all []int
	for _, part := range []*span{cut(y, span{-32768, -1}), cut(y, span{1, 32767})} {
		if part != nil {
			for _, n := range []int{x.lo, x.hi} {
				all = append(all, quotient(n, part.lo), quotient(n, part.hi))
			}
		}
	}
	if all == nil {
		return nil
	}
	if sign == "/" {
		return fit(all...)
	}
	m := max(size(y.lo), size(y.hi)) - 1
	rest := span{}
	if x.lo < 0 {
		rest.lo = max(x.lo, -m)
	}
	if x.hi > 0 {
		rest.hi = min(x.hi, m)
	}
	return &rest
}

func (a *second) sum(s tree.Sum, w world) *span {
	switch s := s.(type) {
	case tree.Number:
		return fit(int(s))
	case tree.Name:
		return fit(w[s].lo, w[s].hi)
	case tree.Negation:
		x := a.sum(s.Of, w)
		if x == nil {
			return nil
		}
		return fit(-x.lo, -x.hi)
	}
	b := s.(tree.Binary)
	x := a.sum(b.Left, w)
	if x == nil {
		return nil
	}
	y := a.sum(b.Right, w)
	if y == nil {
		return nil
	}
	switch b.Sign() {
	case "+":
		return fit(x.lo+y.lo, x.hi+y.hi)
	case "-":
		return fit(x.lo-y.hi, x.hi-y.lo)
	case "*":
		return fit(x.lo*y.lo, x.lo*y.hi, x.hi*y.lo, x.hi*y.hi)
	}
	a.atSite(b.Site, y.lo <= 0 && y.hi >= 0)
	return over(b.Sign(), *x, *y)
}

// bounds are what the two sides of a condition are met with; not ok, if it cannot hold.
func bounds(sign string, l, r span) (left, right span, ok bool) {
	left, right = wholeSpan, wholeSpan
	switch sign {
	case "<":
		left.hi, right.lo, ok = r.hi-1, l.lo+1, l.lo < r.hi
	case "<=":
		left.hi, right.lo, ok = r.hi, l.lo, l.lo <= r.hi
	case ">":
		left.lo, right.hi, ok = r.lo+1, l.hi-1, l.hi > r.lo
	case ">=":
		left.lo, right.hi, ok = r.lo, l.hi, l.hi >= r.lo
	case "==":
		left, right, ok = r, l, cut(l, r) != nil
	case "!=":
		ok = l != r || l.lo != l.hi
		left, right = without(l, r), without(r, l)
	}
	return left, right, ok
}

// without is x, but for an end that is the other one alone.
func without(x, other span) span {
	if other.lo == other.hi && x.lo == other.lo {
		x.lo++
	} else if other.lo == other.hi && x.hi == other.lo {
		x.hi--
	}
	return x
}

func (a *second) behind(c tree.Cond, sign string, w world) world {
	if w == nil {
		return nil
	}
	l := a.sum(c.Left, w)
	if l == nil {
		return nil
	}
	r := a.sum(c.Right, w)
	if r == nil {
		return nil
	}
	left, right, ok := bounds(sign, *l, *r)
	if !ok {
		return nil
	}
	if name, isName := c.Left.(tree.Name); isName {
		w = put(w, name, cut(w[name], left))
	}
	if name, isName := c.Right.(tree.Name); isName && w != nil {
		w = put(w, name, cut(w[name], right))
	}
	return w
}

func (a *second) when(c tree.Cond) change {
	return func(w world) world { return a.behind(c, c.Sign(), w) }
}

func (a *second) unless(c tree.Cond) change {
	opposites := map[string]string{"<": ">=", "<=": ">", "==": "!=", "!=": "==", ">=": "<", ">": "<="}
	return func(w world) world { return a.behind(c, opposites[c.Sign()], w) }
}

func (a *second) block(all tree.Block) change {
	var changes []change
	for _, s := range all {
		one := a.statement(s)
		changes = append(changes, func(w world) world {
			if w == nil {
				return nil
			}
			if _, isLoop := s.(tree.While); !isLoop {
				a.comeTo(s.Where(), w)
			}
			return one(w)
		})
	}
	return func(w world) world {
		for _, one := range changes {
			w = one(w)
		}
		return w
	}
}

func (a *second) statement(s tree.Statement) change {
	switch s := s.(type) {
	case tree.Assign:
		return func(w world) world { return put(w, s.Name, a.sum(s.Sum, w)) }
	case tree.Read:
		return func(w world) world { return put(w, s.Name, &wholeSpan) }
	case tree.Assert:
		yes, no := a.when(s.Cond), a.unless(s.Cond)
		return func(w world) world {
			a.atSite(s.Site, no(w) != nil)
			return yes(w)
		}
	case tree.If:
		yes, no, then, other := a.when(s.Cond), a.unless(s.Cond), a.block(s.Then), a.block(s.Else)
		return func(w world) world { return joined(then(yes(w)), other(no(w))) }
	}
	loop := s.(tree.While)
	yes, no, body := a.when(loop.Cond), a.unless(loop.Cond), a.block(loop.Block)
	return func(w world) world {
		var out world
		for range a.cfg.Unroll {
			a.comeTo(loop.Where(), w)
			out = joined(out, no(w))
			w = body(yes(w))
		}
		w = a.settled(w, func(i world) world { return joined(w, body(yes(i))) })
		a.comeTo(loop.Where(), w)
		body(yes(w))
		return joined(out, no(w))
	}
}

func (a *second) settled(i world, next change) world {
	a.silent++
	defer func() { a.silent-- }()
	for k := 1; ; k++ {
		n := next(i)
		if alike(joined(n, i), i) {
			break
		}
		j := joined(i, n)
		if k > a.cfg.Delay {
			j = a.leap(i, j)
		}
		i = j
	}
	for range a.cfg.Narrow {
		i = back(i, next(i))
	}
	return i
}

// leap goes by the steps in their order.
func (a *second) leap(i, j world) world {
	wide := *i
	for name, s := range j {
		if s.lo < i[name].lo {
			at, exact := slices.BinarySearch(a.steps, s.lo)
			if !exact {
				at--
			}
			wide[name].lo = a.steps[at]
		}
		if s.hi > i[name].hi {
			at, _ := slices.BinarySearch(a.steps, s.hi)
			wide[name].hi = a.steps[at]
		}
	}
	return &wide
}

func back(i, n world) world {
	if i == nil || n == nil {
		return nil
	}
	narrow := *i
	for name, s := range n {
		if narrow[name].lo == wholeSpan.lo {
			narrow[name].lo = s.lo
		}
		if narrow[name].hi == wholeSpan.hi {
			narrow[name].hi = s.hi
		}
	}
	return &narrow
}

// secondReport is the report in Intervals, found by a second analysis.
func secondReport(t *testing.T, src string, cfg api.Config) api.Report {
	t.Helper()
	program, err := reader.Program(src)
	if err != nil {
		t.Fatalf("%q: %v", src, err)
	}
	a := &second{cfg: cfg, steps: []int{-32768, 32767}, facts: make([]world, program.End+1), sites: make([]int, program.Sites)}
	if cfg.Thresholds {
		for _, n := range program.Numbers {
			a.steps = append(a.steps, int(n), -int(n))
		}
	}
	slices.Sort(a.steps)
	a.facts[program.End] = a.block(program.Block)(&[api.Names]span{})
	report := api.Report{Facts: make([]api.Fact, len(a.facts)), Sites: a.sites}
	for point, w := range a.facts {
		if w == nil {
			continue
		}
		report.Facts[point].Reached = true
		for name, s := range w {
			report.Facts[point].Values[name] = api.Value{A: int64(s.lo), B: int64(s.hi)}
		}
	}
	return report
}
