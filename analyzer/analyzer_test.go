package analyzer

import (
	"reflect"
	"testing"

	"invariants/api"
	"invariants/tree"
)

// flat is a value of the smallest domain that there is: one number, or any.
type flat struct {
	n   int16
	any bool
}

type flats struct{ asked *int }

func (flats) Number(n int16) flat { return flat{n: n} }

func (flats) Whole() flat { return flat{any: true} }

func (flats) Negate(x flat) flat { return flat{-x.n, x.any} }

func (flats) Work(op tree.Op, x, y flat) (flat, bool) {
	if n, ok := op.Work(x.n, y.n); !x.any && !y.any || !ok {
		return flat{n: n}, ok
	}
	return flat{any: true}, true
}

func (flats) HasNought(x flat) bool { return x.any || x.n == 0 }

func (flats) Join(x, y flat) flat {
	if x == y {
		return x
	}
	return flat{any: true}
}

func (f flats) May(r tree.Relation, x, y flat) bool {
	*f.asked++
	return x.any || y.any || r.Holds(x.n, y.n)
}

func (f flats) Bound(r tree.Relation, x, right flat) (flat, bool) {
	switch {
	case right.any || r != tree.Equal:
		return x, true
	case x.any || x == right:
		return right, true
	}
	return flat{}, false
}

func (flats) Widen(x, y flat) flat { return y }

func (flats) Narrow(x, y flat) flat { return x }

func (flats) Tell(x flat) api.Value {
	if x.any {
		return api.Value{A: 1}
	}
	return api.Value{B: int64(x.n)}
}

var (
	a = tree.Name(0)
	b = tree.Name(1)
)

func plus(left, right tree.Sum) tree.Sum { return tree.Binary{Op: tree.Add, Left: left, Right: right} }

func knownOf(values ...api.Value) api.Fact {
	f := api.Fact{Reached: true}
	copy(f.Values[:], values)
	return f
}

func number(n int64) api.Value { return api.Value{B: n} }

// every is any number at all, as flats tell it.
func every() api.Value { return api.Value{A: 1} }

func TestReport(t *testing.T) {
	// while a < b { a = a + 1; } with b 9; then an if of which one block is never come to.
	program := tree.Program{
		Block: tree.Block{
			tree.Assign{Point: 0, Name: b, Sum: tree.Number(9)},
			tree.While{
				Point: 1,
				Cond:  tree.Cond{Relation: tree.Less, Left: a, Right: b},
				Block: tree.Block{tree.Assign{Point: 2, Name: a, Sum: plus(a, tree.Number(1))}},
			},
			tree.If{
				Point: 3,
				Cond:  tree.Cond{Relation: tree.Equal, Left: b, Right: tree.Number(8)},
				Then:  tree.Block{tree.Assert{Point: 4, Site: 0, Cond: tree.Cond{Left: a, Right: b}}},
			},
			tree.Assert{Point: 5, Site: 1, Cond: tree.Cond{Relation: tree.Equal, Left: a, Right: b}},
			tree.Assign{Point: 6, Name: a, Sum: tree.Binary{Op: tree.Divide, Site: 2, Left: b, Right: a}},
		},
		End:   7,
		Sites: 3,
	}
	looped := knownOf(every(), number(9))
	want := api.Report{
		Facts: []api.Fact{knownOf(), looped, looped, looped, {}, looped, knownOf(number(9), number(9)), knownOf(number(1), number(9))},
		Sites: []int{api.Unreached, api.Alarm, api.Safe},
	}
	if got := Report(program, api.Config{Delay: 1, Narrow: 1}, flats{new(int)}); !reflect.DeepEqual(got, want) {
		t.Errorf("%v\nwant\n%v", got, want)
	}
}

// nest is loops within one another, round the innermost of which b grows.
func nest(depth int) tree.Block {
	if depth == 0 {
		return tree.Block{tree.Assign{Name: b, Sum: plus(b, tree.Number(1))}}
	}
	return tree.Block{
		tree.Read{Name: a},
		tree.While{Point: tree.Point(depth), Cond: tree.Cond{Left: a, Right: b}, Block: nest(depth - 1)},
	}
}

// A loop that is come to again with the same state is not gone round again: so one more around it asks for a few more conditions, not for many times as many.
func TestNestedLoops(t *testing.T) {
	cfg := api.Config{Delay: api.MaxDelay, Narrow: api.MaxNarrow, Unroll: api.MaxUnroll}
	asked := 0
	for depth := 1; depth <= api.MaxDepth; depth++ {
		before := asked
		asked = 0
		report := Report(tree.Program{Block: nest(depth), End: tree.Point(depth + 1)}, cfg, flats{&asked})
		if want := knownOf(every(), every()); report.Facts[depth+1] != want {
			t.Errorf("%d loops: %v at the end, want %v", depth, report.Facts[depth+1], want)
		}
		if depth > 3 && asked > before+before/2 {
			t.Errorf("%d conditions are asked for of %d loops, %d of one less", asked, depth, before)
		}
	}
}

func TestEach(t *testing.T) {
	some, none := same(3), state[int]{}
	add := func(x, y int) int { return x + y }
	if got, want := each(some, same(4), add), same(7); got != want {
		t.Errorf("%v, want %v", got, want)
	}
	if each(some, none, add) != none || each(none, some, add) != none || each(none, none, add) != none {
		t.Error("of none, each makes something")
	}
}
