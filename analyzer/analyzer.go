package analyzer

import (
	"invariants/api"
	"invariants/tree"
)

// walk goes through a program, or through a part of it.
type walk[V comparable] struct {
	domain Domain[V]
	cfg    api.Config
	loops  map[entry[V]]passed[V]
	found  *found[V] // nil, where nothing is told: in the rounds in which a loop's state is looked for
}

// found is what the report will be made of.
type found[V comparable] struct {
	facts []state[V]
	sites []int
}

// Report analyzes a program, with a configuration that is one. (Its domain and its thresholds are the domain's thing.)
func Report[V comparable](program tree.Program, cfg api.Config, domain Domain[V]) api.Report {
	w := walk[V]{
		domain: domain,
		cfg:    cfg,
		loops:  map[entry[V]]passed[V]{},
		found:  &found[V]{facts: make([]state[V], program.End+1), sites: make([]int, program.Sites)},
	}
	end := w.block(program.Block, same(domain.Number(0)))
	w.comeTo(program.End.Where(), end)
	return api.Report{Facts: facts(domain, w.found.facts), Sites: w.found.sites}
}

func facts[V comparable](domain Domain[V], states []state[V]) []api.Fact {
	all := make([]api.Fact, len(states))
	for point, s := range states {
		if s.reached {
			all[point] = fact(domain, s)
		}
	}
	return all
}

func fact[V comparable](domain Domain[V], s state[V]) api.Fact {
	f := api.Fact{Reached: true}
	for name, value := range s.values {
		f.Values[name] = domain.Tell(value)
	}
	return f
}

// quiet is a walk that tells nothing.
func (w walk[V]) quiet() walk[V] {
	w.found = nil
	return w
}

func (w walk[V]) comeTo(point int, s state[V]) {
	if w.found != nil {
		w.found.facts[point] = w.join(w.found.facts[point], s)
	}
}

// comeToSite keeps the greatest of what is told: so Alarm stays.
func (w walk[V]) comeToSite(site tree.Site, mayFail bool) {
	if w.found == nil {
		return
	}
	now := api.Safe
	if mayFail {
		now = api.Alarm
	}
	w.found.sites[site] = max(w.found.sites[site], now)
}

func (w walk[V]) join(x, y state[V]) state[V] {
	switch {
	case !x.reached:
		return y
	case !y.reached:
		return x
	}
	return each(x, y, w.domain.Join)
}

// block answers the state behind the statements.
func (w walk[V]) block(all tree.Block, s state[V]) state[V] {
	for _, one := range all {
		if !s.reached {
			return s
		}
		w.comeTo(one.Where(), s)
		s = w.statement(one, s)
	}
	return s
}

func (w walk[V]) statement(one tree.Statement, s state[V]) state[V] {
	switch one := one.(type) {
	case tree.Assign:
		return w.assign(one, s)
	case tree.Read:
		s.values[one.Name] = w.domain.Whole()
	case tree.Assert:
		return w.assert(one, s)
	case tree.If:
		return w.branch(one, s)
	case tree.While:
		return w.loop(one, s)
	}
	return s
}

func (w walk[V]) assign(one tree.Assign, s state[V]) state[V] {
	value, ok := w.sum(one.Sum, s)
	if !ok {
		return state[V]{}
	}
	s.values[one.Name] = value
	return s
}

func (w walk[V]) assert(one tree.Assert, s state[V]) state[V] {
	holds, fails := w.cond(one.Cond, s)
	w.comeToSite(one.Site, fails.reached)
	return holds
}

func (w walk[V]) branch(one tree.If, s state[V]) state[V] {
	holds, fails := w.cond(one.Cond, s)
	return w.join(w.block(one.Then, holds), w.block(one.Else, fails))
}
