package invariants_test

import (
	"testing"

	"invariants/api"
	"invariants/reader"
	"invariants/tree"
)

// pair is a value, as a report has it: in Intervals the numbers from a to b; in Congruences all that leave b when they are divided by a, or b alone, if a is 0.
type pair struct{ a, b int }

// kind is what a second analysis knows of a domain. What has no value, or is met with nothing, is nil.
type kind interface {
	number(n int) pair
	whole() pair
	negated(x pair) pair
	between(sign string, x, y pair) *pair
	hasNought(x pair) bool
	join(x, y pair) pair
	meet(x, y pair) *pair
	bounds(sign string, l, r pair) (left, right *pair, ok bool)
	leap(i, j pair) pair
	back(i, n pair) pair
}

// world is a state; nil is none. One that is handed on is never written into.
type world *[api.Names]pair

// second is an analysis in another way: each statement is made into a function from world to world, and loops within loops are gone round anew each time.
type second struct {
	kind
	cfg    api.Config
	facts  []world
	sites  []int
	silent int // how many loops are looked for a state of just now
}

type change func(world) world

func put(w world, name tree.Name, p *pair) world {
	if w == nil || p == nil {
		return nil
	}
	copied := *w
	copied[name] = *p
	return &copied
}

// paired puts two worlds together that are not nil.
func paired(one, other world, both func(x, y pair) pair) world {
	copied := *one
	for name, p := range other {
		copied[name] = both(copied[name], p)
	}
	return &copied
}

func (a *second) joined(one, other world) world {
	if one == nil {
		return other
	}
	if other == nil {
		return one
	}
	return paired(one, other, a.join)
}

func alike(one, other world) bool {
	if one == nil || other == nil {
		return one == nil && other == nil
	}
	return *one == *other
}

func (a *second) comeTo(point int, w world) {
	if a.silent == 0 {
		a.facts[point] = a.joined(a.facts[point], w)
	}
}

func (a *second) atSite(site tree.Site, alarm bool) {
	switch {
	case a.silent > 0:
	case alarm:
		a.sites[site] = api.Alarm
	case a.sites[site] == api.Unreached:
		a.sites[site] = api.Safe
	}
}

func (a *second) sum(s tree.Sum, w world) *pair {
	switch s := s.(type) {
	case tree.Number:
		n := a.number(int(s))
		return &n
	case tree.Name:
		p := w[s]
		return &p
	case tree.Negation:
		x := a.sum(s.Of, w)
		if x != nil {
			*x = a.negated(*x)
		}
		return x
	}
	b := s.(tree.Binary)
	x := a.sum(b.Left, w)
	if x == nil {
		return nil
	}
	y := a.sum(b.Right, w)
	if y == nil {
		return nil
	}
	if b.Sign() == "/" || b.Sign() == "%" {
		a.atSite(b.Site, a.hasNought(*y))
	}
	return a.between(b.Sign(), *x, *y)
}

func (a *second) bounded(side tree.Sum, bound *pair, w world) world {
	name, isName := side.(tree.Name)
	if !isName || bound == nil || w == nil {
		return w
	}
	return put(w, name, a.meet(w[name], *bound))
}

func (a *second) behind(c tree.Cond, sign string, w world) world {
	if w == nil {
		return nil
	}
	l := a.sum(c.Left, w)
	if l == nil {
		return nil
	}
	r := a.sum(c.Right, w)
	if r == nil {
		return nil
	}
	left, right, ok := a.bounds(sign, *l, *r)
	if !ok {
		return nil
	}
	return a.bounded(c.Right, right, a.bounded(c.Left, left, w))
}

func (a *second) when(c tree.Cond) change {
	return func(w world) world { return a.behind(c, c.Sign(), w) }
}

func (a *second) unless(c tree.Cond) change {
	opposites := map[string]string{"<": ">=", "<=": ">", "==": "!=", "!=": "==", ">=": "<", ">": "<="}
	return func(w world) world { return a.behind(c, opposites[c.Sign()], w) }
}

func (a *second) block(all tree.Block) change {
	var changes []change
	for _, s := range all {
		one := a.statement(s)
		changes = append(changes, func(w world) world {
			if w == nil {
				return nil
			}
			if _, isLoop := s.(tree.While); !isLoop {
				a.comeTo(s.Where(), w)
			}
			return one(w)
		})
	}
	return func(w world) world {
		for _, one := range changes {
			w = one(w)
		}
		return w
	}
}

func (a *second) statement(s tree.Statement) change {
	switch s := s.(type) {
	case tree.Assign:
		return func(w world) world { return put(w, s.Name, a.sum(s.Sum, w)) }
	case tree.Read:
		whole := a.whole()
		return func(w world) world { return put(w, s.Name, &whole) }
	case tree.Assert:
		yes, no := a.when(s.Cond), a.unless(s.Cond)
		return func(w world) world {
			a.atSite(s.Site, no(w) != nil)
			return yes(w)
		}
	case tree.If:
		yes, no, then, other := a.when(s.Cond), a.unless(s.Cond), a.block(s.Then), a.block(s.Else)
		return func(w world) world { return a.joined(then(yes(w)), other(no(w))) }
	}
	loop := s.(tree.While)
	yes, no, body := a.when(loop.Cond), a.unless(loop.Cond), a.block(loop.Block)
	return func(w world) world {
		var out world
		for range a.cfg.Unroll {
			a.comeTo(loop.Where(), w)
			out = a.joined(out, no(w))
			w = body(yes(w))
		}
		w = a.settled(w, func(i world) world { return a.joined(w, body(yes(i))) })
		a.comeTo(loop.Where(), w)
		body(yes(w))
		return a.joined(out, no(w))
	}
}

func (a *second) settled(i world, next change) world {
	a.silent++
	defer func() { a.silent-- }()
	for k := 1; ; k++ {
		n := next(i)
		if alike(a.joined(n, i), i) {
			break
		}
		j := a.joined(i, n)
		if k > a.cfg.Delay {
			j = paired(i, j, a.leap)
		}
		i = j
	}
	for range a.cfg.Narrow {
		if n := next(i); i != nil && n != nil {
			i = paired(i, n, a.back)
		}
	}
	return i
}

// secondReport is the report, found by a second analysis.
func secondReport(t *testing.T, src string, cfg api.Config) api.Report {
	t.Helper()
	program, err := reader.Program(src)
	if err != nil {
		t.Fatalf("%q: %v", src, err)
	}
	a := &second{kind: classes{}, cfg: cfg, facts: make([]world, program.End+1), sites: make([]int, program.Sites)}
	if cfg.Domain == api.Intervals {
		a.kind = newSpans(program.Numbers, cfg.Thresholds)
	}
	start := world(new([api.Names]pair))
	for name := range start {
		start[name] = a.number(0)
	}
	a.facts[program.End] = a.block(program.Block)(start)
	report := api.Report{Facts: make([]api.Fact, len(a.facts)), Sites: a.sites}
	for point, w := range a.facts {
		if w == nil {
			continue
		}
		report.Facts[point].Reached = true
		for name, p := range w {
			report.Facts[point].Values[name] = api.Value{A: int64(p.a), B: int64(p.b)}
		}
	}
	return report
}
