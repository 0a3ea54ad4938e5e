package invariants_test

import (
	"slices"
	"testing"

	"invariants/api"
	"invariants/reader"
	"invariants/tree"
)

// machine is a run in another way: what is still to do lies on a stack, and numbers are worked out in full, then brought back.
type machine struct {
	todo   []tree.Statement // the next one last
	store  [api.Names]int
	inputs []int16
	stop   int
	failed bool
}

func wrap(n int) int {
	n %= 65536
	switch {
	case n >= 32768:
		return n - 65536
	case n < -32768:
		return n + 65536
	}
	return n
}

func size(n int) int { return max(n, -n) }

// quotient goes by sizes: what is behind the point is left out, whatever the signs.
func quotient(x, y int) int {
	q := size(x) / size(y)
	if (x < 0) != (y < 0) {
		return -q
	}
	return q
}

func (m *machine) sum(s tree.Sum) int {
	if m.failed {
		return 0
	}
	switch s := s.(type) {
	case tree.Number:
		return int(s)
	case tree.Name:
		return m.store[s]
	case tree.Negation:
		return wrap(-m.sum(s.Of))
	}
	b := s.(tree.Binary)
	x := m.sum(b.Left)
	y := m.sum(b.Right)
	if (b.Sign() == "/" || b.Sign() == "%") && y == 0 {
		m.fail(b.Site)
		return 0
	}
	switch b.Sign() {
	case "+":
		return wrap(x + y)
	case "-":
		return wrap(x - y)
	case "*":
		return wrap(x * y)
	case "/":
		return wrap(quotient(x, y))
	}
	return wrap(x - quotient(x, y)*y)
}

func (m *machine) fail(site tree.Site) {
	if !m.failed {
		m.failed, m.stop = true, int(site)
	}
}

func (m *machine) holds(c tree.Cond) bool {
	difference := m.sum(c.Left) - m.sum(c.Right)
	switch c.Sign() {
	case "<":
		return difference < 0
	case "<=":
		return difference <= 0
	case "==":
		return difference == 0
	case "!=":
		return difference != 0
	case ">=":
		return difference >= 0
	}
	return difference > 0
}

func (m *machine) push(block tree.Block) {
	for _, s := range slices.Backward(block) {
		m.todo = append(m.todo, s)
	}
}

func (m *machine) step(s tree.Statement) {
	switch s := s.(type) {
	case tree.Assign:
		if n := m.sum(s.Sum); !m.failed {
			m.store[s.Name] = n
		}
	case tree.Read:
		m.store[s.Name] = 0
		if len(m.inputs) > 0 {
			m.store[s.Name], m.inputs = int(m.inputs[0]), m.inputs[1:]
		}
	case tree.Assert:
		if !m.holds(s.Cond) {
			m.fail(s.Site)
		}
	case tree.If:
		if m.holds(s.Cond) {
			m.push(s.Then)
		} else {
			m.push(s.Else)
		}
	case tree.While:
		if m.holds(s.Cond) {
			m.push(tree.Block{s})
			m.push(s.Block)
		}
	}
}

func (m *machine) visit(point int) api.Visit {
	visit := api.Visit{Point: point}
	for name, n := range m.store {
		visit.Store[name] = int16(n)
	}
	return visit
}

// stepped is the trace of a run, found by a machine.
func stepped(t *testing.T, src string, inputs []int16, fuel int) api.Trace {
	t.Helper()
	program, err := reader.Program(src)
	if err != nil {
		t.Fatalf("%q: %v", src, err)
	}
	m := &machine{inputs: inputs}
	m.push(program.Block)
	var visits []api.Visit
	for len(visits) < fuel {
		if len(m.todo) == 0 {
			return api.Trace{Visits: append(visits, m.visit(int(program.End))), Stop: api.Ended}
		}
		s := m.todo[len(m.todo)-1]
		m.todo = m.todo[:len(m.todo)-1]
		visits = append(visits, m.visit(s.Where()))
		m.step(s)
		if m.failed {
			return api.Trace{Visits: visits, Stop: m.stop}
		}
	}
	return api.Trace{Visits: visits, Stop: api.Spent}
}
