// Package runner: from a program's tree to the trace of its run.
package runner

import (
	"invariants/api"
	"invariants/tree"
)

// runner is in the midst of a run. What it does answers whether the run goes on; if it doesn't, Stop says why.
type runner struct {
	api.Trace
	store  api.Store
	inputs []int16 // those that are not read yet
	fuel   int     // what is left of it
}

// Run runs a program, with 0 or more of fuel.
func Run(program tree.Program, inputs []int16, fuel int) api.Trace {
	r := &runner{inputs: inputs, fuel: fuel}
	if r.block(program.Block) && r.visit(program.End.Where()) {
		r.Stop = api.Ended
	}
	return r.Trace
}

func (r *runner) block(all tree.Block) bool {
	for _, s := range all {
		if !r.visit(s.Where()) || !r.statement(s) {
			return false
		}
	}
	return true
}

// visit comes by at the point of a statement or of the end.
func (r *runner) visit(point int) bool {
	if r.fuel <= 0 {
		r.Stop = api.Spent
		return false
	}
	r.fuel--
	r.Visits = append(r.Visits, api.Visit{Point: point, Store: r.store})
	return true
}

func (r *runner) statement(s tree.Statement) bool {
	switch s := s.(type) {
	case tree.Assign:
		return r.assign(s)
	case tree.Read:
		r.store[s.Name] = r.next()
	case tree.Assert:
		return r.assert(s)
	case tree.If:
		return r.branch(s)
	case tree.While:
		return r.loop(s)
	}
	return true
}

func (r *runner) assign(s tree.Assign) bool {
	n, on := r.sum(s.Sum)
	if on {
		r.store[s.Name] = n
	}
	return on
}

// next takes the next input.
func (r *runner) next() int16 {
	if len(r.inputs) == 0 {
		return 0
	}
	n := r.inputs[0]
	r.inputs = r.inputs[1:]
	return n
}

func (r *runner) assert(s tree.Assert) bool {
	holds, on := r.cond(s.Cond)
	if on && !holds {
		return r.stopAt(s.Site)
	}
	return on
}

func (r *runner) branch(s tree.If) bool {
	holds, on := r.cond(s.Cond)
	switch {
	case !on:
		return false
	case holds:
		return r.block(s.Then)
	}
	return r.block(s.Else)
}

// loop begins behind the first visit. Each further round is one more.
func (r *runner) loop(s tree.While) bool {
	for {
		holds, on := r.cond(s.Cond)
		if !on || !holds {
			return on
		}
		if !r.block(s.Block) || !r.visit(s.Where()) {
			return false
		}
	}
}

func (r *runner) cond(c tree.Cond) (holds, on bool) {
	left, right, on := r.sides(c.Left, c.Right)
	return on && c.Holds(left, right), on
}

func (r *runner) sum(s tree.Sum) (n int16, on bool) {
	switch s := s.(type) {
	case tree.Number:
		return int16(s), true
	case tree.Name:
		return r.store[s], true
	case tree.Negation:
		n, on := r.sum(s.Of)
		return -n, on
	case tree.Binary:
		return r.binary(s)
	}
	return 0, true
}

func (r *runner) binary(s tree.Binary) (n int16, on bool) {
	left, right, on := r.sides(s.Left, s.Right)
	if !on {
		return 0, false
	}
	n, ok := s.Work(left, right)
	if !ok {
		return 0, r.stopAt(s.Site)
	}
	return n, true
}

// sides works the left side out ahead of the right one: of two sites the left one stops the run.
func (r *runner) sides(left, right tree.Sum) (x, y int16, on bool) {
	x, on = r.sum(left)
	if on {
		y, on = r.sum(right)
	}
	return x, y, on
}

func (r *runner) stopAt(site tree.Site) bool {
	r.Stop = int(site)
	return false
}
