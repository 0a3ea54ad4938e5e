package interval

import (
	"testing"

	"invariants/api"
	"invariants/tree"
)

// span is a value by its ends.
func span(from, to int) Value { return Value{int16(from), int16(to)} }

func whole() Value { return span(least, most) }

// around are all values with ends from -n to n.
func around(n int) []Value {
	var all []Value
	for from := -n; from <= n; from++ {
		for to := from; to <= n; to++ {
			all = append(all, span(from, to))
		}
	}
	return all
}

// worked is from the least to the greatest of what a run may work out; not ok, if there is nothing.
func worked(op tree.Op, x, y Value) (value Value, ok bool) {
	for a := x.from; a <= x.to; a++ {
		for b := y.from; b <= y.to; b++ {
			n, went := op.Work(a, b)
			if !went {
				continue
			}
			if !ok {
				value = Value{n, n}
			}
			value, ok = Value{min(value.from, n), max(value.to, n)}, true
		}
	}
	return value, ok
}

// Where nothing wraps round, all signs but % are worked out as tightly as can be; the value of a % has all that there may be in it.
func TestWorkAroundNought(t *testing.T) {
	for op := tree.Add; op <= tree.Remainder; op++ {
		for _, x := range around(7) {
			for _, y := range around(4) {
				got, ok := Domain{}.Work(op, x, y)
				want, wantOk := worked(op, x, y)
				within := got.from <= want.from && want.to <= got.to
				if ok != wantOk || !ok && got != (Value{}) || ok && !within || op != tree.Remainder && got != want {
					t.Errorf("%v %s %v: %v, %v, want %v, %v", x, op.Sign(), y, got, ok, want, wantOk)
				}
			}
		}
	}
}

type work struct {
	op   tree.Op
	x, y Value
	want Value
}

func TestWorkAtTheEdges(t *testing.T) {
	for _, e := range []work{
		{tree.Add, span(most-5, most-1), span(0, 1), span(most-5, most)},
		{tree.Add, span(most-5, most-1), span(0, 2), whole()},
		{tree.Add, span(least+1, 0), span(-1, 0), span(least, 0)},
		{tree.Add, span(least+1, 0), span(-2, 0), whole()},
		{tree.Add, span(most, most), span(1, 1), whole()},
		{tree.Subtract, span(0, 5), span(least+6, 0), span(0, most)},
		{tree.Subtract, span(0, 5), span(least+5, 0), whole()},
		{tree.Subtract, span(-2, 0), span(0, most), whole()},
		{tree.Subtract, span(-1, 0), span(0, most), span(least, 0)},
		{tree.Multiply, span(-181, 181), span(-181, 181), span(-32761, 32761)},
		{tree.Multiply, span(0, 182), span(0, 182), whole()},
		{tree.Multiply, span(-256, 0), span(0, 128), span(least, 0)},
		{tree.Multiply, span(-256, 0), span(-128, 0), whole()},
		{tree.Multiply, whole(), span(0, 0), span(0, 0)},
		{tree.Multiply, whole(), span(1, 1), whole()},
		{tree.Multiply, span(least, least), span(-1, -1), whole()},
		{tree.Divide, span(least, least), span(-1, -1), whole()},
		{tree.Divide, whole(), span(-1, 5), whole()},
		{tree.Divide, whole(), span(0, 5), whole()},
		{tree.Divide, whole(), span(2, 5), span(-16384, 16383)},
		{tree.Divide, whole(), span(-5, -2), span(-16383, 16384)},
		{tree.Divide, span(least+1, most), span(-1, -1), span(-most, most)},
		{tree.Divide, span(least+1, 7), span(-3, 0), span(-7, most)},
		{tree.Divide, span(100, 100), whole(), span(-100, 100)},
		{tree.Divide, span(100, 100), span(least, 0), span(-100, 0)},
		{tree.Divide, span(-7, 7), span(2, 2), span(-3, 3)},
	} {
		if got, ok := (Domain{}).Work(e.op, e.x, e.y); !ok || got != e.want {
			t.Errorf("%v %s %v: %v, %v, want %v", e.x, e.op.Sign(), e.y, got, ok, e.want)
		}
	}
}

func TestRemainder(t *testing.T) {
	for _, e := range []work{
		{tree.Remainder, span(2, 8), span(-3, 5), span(0, 4)},
		{tree.Remainder, span(2, 8), span(-9, 5), span(0, 8)},
		{tree.Remainder, span(-8, -2), span(3, 5), span(-4, 0)},
		{tree.Remainder, span(-3, 3), span(10, 20), span(-3, 3)},
		{tree.Remainder, span(-30, 3), span(-10, -5), span(-9, 3)},
		{tree.Remainder, span(5, 9), span(10, 20), span(0, 9)},
		{tree.Remainder, span(5, 9), span(1, 1), span(0, 0)},
		{tree.Remainder, span(5, 9), span(0, 1), span(0, 0)},
		{tree.Remainder, span(7, 7), span(3, 3), span(0, 2)},
		{tree.Remainder, span(0, 0), span(3, 3), span(0, 0)},
		{tree.Remainder, whole(), whole(), span(-most, most)},
		{tree.Remainder, whole(), span(least, least), span(-most, most)},
		{tree.Remainder, whole(), span(most, most), span(1-most, most-1)},
		{tree.Remainder, span(least, -1), span(least, -1), span(-most, 0)},
	} {
		if got, ok := (Domain{}).Work(e.op, e.x, e.y); !ok || got != e.want {
			t.Errorf("%v %% %v: %v, %v, want %v", e.x, e.y, got, ok, e.want)
		}
	}
	for _, op := range []tree.Op{tree.Divide, tree.Remainder} {
		if got, ok := (Domain{}).Work(op, whole(), span(0, 0)); ok || got != (Value{}) {
			t.Errorf("whole %s 0: %v, %v", op.Sign(), got, ok)
		}
	}
}

func TestNegate(t *testing.T) {
	for x, want := range map[Value]Value{
		span(3, 9):         span(-9, -3),
		span(-3, 9):        span(-9, 3),
		span(0, 0):         span(0, 0),
		span(-most, most):  span(-most, most),
		span(least, -7):    whole(),
		span(least, least): whole(),
		whole():            whole(),
	} {
		if got := (Domain{}).Negate(x); got != want {
			t.Errorf("- %v: %v, want %v", x, got, want)
		}
	}
}

func TestJoinAndTell(t *testing.T) {
	d := Domain{}
	if got := d.Join(span(-3, 2), span(5, 9)); got != span(-3, 9) {
		t.Errorf("joined: %v", got)
	}
	if got := d.Join(span(5, 9), span(-3, 2)); got != span(-3, 9) {
		t.Errorf("joined: %v", got)
	}
	if got := d.Tell(d.Whole()); got != (api.Value{A: least, B: most}) {
		t.Errorf("whole: %v", got)
	}
	if got := d.Tell(d.Number(-7)); got != (api.Value{A: -7, B: -7}) {
		t.Errorf("-7: %v", got)
	}
	for x, want := range map[Value]bool{span(-1, 1): true, span(0, 4): true, span(-4, 0): true, span(1, 4): false, span(-4, -1): false} {
		if d.HasNought(x) != want {
			t.Errorf("%v: 0 is within: %v", x, !want)
		}
	}
}

// may tells, by all pairs of numbers, whether a condition may hold.
func may(r tree.Relation, x, y Value) bool {
	for a := x.from; a <= x.to; a++ {
		for b := y.from; b <= y.to; b++ {
			if r.Holds(a, b) {
				return true
			}
		}
	}
	return false
}

// bounded is from the least to the greatest of x that some number of y stands to so.
func bounded(r tree.Relation, x, y Value) (value Value, ok bool) {
	for a := x.from; a <= x.to; a++ {
		if !may(r, Value{a, a}, y) {
			continue
		}
		if !ok {
			value.from = a
		}
		value.to, ok = a, true
	}
	return value, ok
}

func TestConditions(t *testing.T) {
	d := Domain{}
	for r := tree.Less; r <= tree.Greater; r++ {
		for _, x := range around(4) {
			for _, y := range around(4) {
				if got, want := d.May(r, x, y), may(r, x, y); got != want {
					t.Errorf("%v %s %v: %v", x, r.Sign(), y, got)
				}
				got, ok := d.Bound(r, x, y)
				want, wantOk := bounded(r, x, y)
				if got != want || ok != wantOk {
					t.Errorf("%v by %s %v: %v, %v, want %v, %v", x, r.Sign(), y, got, ok, want, wantOk)
				}
			}
		}
	}
}

func TestBoundAtTheEdges(t *testing.T) {
	d := Domain{}
	for _, e := range []struct {
		r        tree.Relation
		x, right Value
		want     Value
		ok       bool
	}{
		{tree.Less, whole(), span(least, least), Value{}, false},
		{tree.Less, whole(), span(least, least+1), span(least, least), true},
		{tree.Less, whole(), whole(), span(least, most-1), true},
		{tree.LessEqual, whole(), span(least, least), span(least, least), true},
		{tree.Greater, whole(), span(most, most), Value{}, false},
		{tree.Greater, whole(), span(most-1, most), span(most, most), true},
		{tree.Greater, whole(), whole(), span(least+1, most), true},
		{tree.GreaterEqual, whole(), span(most, most), span(most, most), true},
		{tree.NotEqual, whole(), span(least, least), span(least+1, most), true},
		{tree.NotEqual, whole(), span(most, most), span(least, most-1), true},
		{tree.NotEqual, span(least, least), span(least, least), Value{}, false},
		{tree.NotEqual, span(most, most), span(most, most), Value{}, false},
	} {
		if got, ok := d.Bound(e.r, e.x, e.right); got != e.want || ok != e.ok {
			t.Errorf("%v by %s %v: %v, %v, want %v, %v", e.x, e.r.Sign(), e.right, got, ok, e.want, e.ok)
		}
	}
}

func TestWiden(t *testing.T) {
	plain, stepped := New(nil), New([]tree.Number{10, 3, 0, 10, most})
	for _, e := range []struct {
		d          Domain
		x, y, want Value
	}{
		{plain, span(0, 5), span(0, 5), span(0, 5)},
		{plain, span(0, 5), span(1, 4), span(0, 5)},
		{plain, span(0, 5), span(0, 6), span(0, most)},
		{plain, span(0, 5), span(-1, 5), span(least, 5)},
		{plain, span(0, 5), span(-1, 6), whole()},
		{stepped, span(1, 2), span(1, 3), span(1, 3)},
		{stepped, span(1, 2), span(1, 4), span(1, 10)},
		{stepped, span(1, 2), span(1, 11), span(1, most)},
		{stepped, span(1, 2), span(0, 2), span(0, 2)},
		{stepped, span(1, 2), span(-1, 2), span(-3, 2)},
		{stepped, span(1, 2), span(-10, 2), span(-10, 2)},
		{stepped, span(1, 2), span(-11, 2), span(-most, 2)},
		{stepped, span(1, 2), span(least, 2), span(least, 2)},
		{stepped, span(-9, -8), span(-9, -7), span(-9, -3)},
		{stepped, span(-9, -8), span(-9, -2), span(-9, 0)},
	} {
		if got := e.d.Widen(e.x, e.y); got != e.want {
			t.Errorf("%v widened to %v by %v: %v, want %v", e.x, e.y, e.d.steps, got, e.want)
		}
	}
}

func TestNarrow(t *testing.T) {
	for _, e := range [][3]Value{
		{whole(), span(-4, 4), span(-4, 4)},
		{span(least, 9), span(-4, 4), span(-4, 9)},
		{span(-9, most), span(-4, 4), span(-9, 4)},
		{span(-9, 9), span(-4, 4), span(-9, 9)},
		{whole(), whole(), whole()},
	} {
		if got := (Domain{}).Narrow(e[0], e[1]); got != e[2] {
			t.Errorf("%v narrowed to %v: %v, want %v", e[0], e[1], got, e[2])
		}
	}
}
