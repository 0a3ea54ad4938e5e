package congruence

import (
	"math/bits"
	"testing"

	"invariants/api"
	"invariants/tree"
)

func alone(n int64) Value { return Value{0, n} }

func whole() Value { return Value{1, 0} }

// small are all classes of the lesser moduli, and some numbers alone.
func small() []Value {
	all := []Value{alone(0), alone(1), alone(-1), alone(6), alone(-9), alone(300), alone(least), alone(most)}
	for modulus := int64(1); modulus <= 12; modulus++ {
		for rest := range modulus {
			all = append(all, Value{modulus, rest})
		}
	}
	return all
}

// great are classes of which few numbers are those of a run.
func great() []Value {
	var all []Value
	for _, modulus := range []int64{100, 255, 256, 257, 16384, 21845, 21846, 29000, 30000, 32767, 32768, 32769, 40000, 65534, 65535, 65536} {
		for _, rest := range []int64{0, 1, 2, modulus / 2, modulus - 1000, modulus - 1} {
			if rest >= 0 {
				all = append(all, Value{modulus, rest})
			}
		}
	}
	return all
}

// some are numbers of a run that are in a value: the first ones, some around 0, and the last ones.
func some(x Value) []int16 {
	if x.modulus == 0 {
		return []int16{int16(x.rest)}
	}
	var all []int16
	for _, from := range []int64{least, -x.modulus, most - 2*x.modulus + 1} {
		for n := max(from, least); n < from+2*x.modulus && n <= most; n++ {
			if (n-x.rest)%x.modulus == 0 {
				all = append(all, int16(n))
			}
		}
	}
	return all
}

// someOfEach looks some numbers up by their value.
func someOfEach(values []Value) map[Value][]int16 {
	all := map[Value][]int16{}
	for _, x := range values {
		all[x] = some(x)
	}
	return all
}

// tightest is the value of the greatest modulus that is a power of 2 and has all of some numbers in it.
func tightest(all []int16) Value {
	first := int64(all[0])
	modulus := int64(65536)
	for _, n := range all {
		for (int64(n)-first)%modulus != 0 {
			modulus /= 2
		}
	}
	return Value{modulus, (first + 65536) % modulus}
}

func contains(x Value, n int16) bool {
	if x.modulus == 0 {
		return x.rest == int64(n)
	}
	return (int64(n)-x.rest)%x.modulus == 0
}

func isValue(x Value) bool {
	if x.modulus == 0 {
		return least <= x.rest && x.rest <= most
	}
	return 1 <= x.modulus && x.modulus <= 65536 && 0 <= x.rest && x.rest < x.modulus
}

// worked is what a run makes of numbers on the one side and on the other.
func worked(op tree.Op, left, right []int16) []int16 {
	var all []int16
	for _, a := range left {
		for _, b := range right {
			if n, ok := op.Work(a, b); ok {
				all = append(all, n)
			}
		}
	}
	return all
}

// Of lesser moduli, + - and * are worked out as tightly as can be, but for what a wrap-round takes away.
func TestWorkIsTight(t *testing.T) {
	numbers := someOfEach(small())
	for op := tree.Add; op <= tree.Multiply; op++ {
		for x, left := range numbers {
			for y, right := range numbers {
				if x.modulus == 0 && y.modulus == 0 || op == tree.Multiply && (x == alone(0) || y == alone(0)) {
					continue
				}
				got, ok := Domain{}.Work(op, x, y)
				if want := tightest(worked(op, left, right)); !ok || got != want {
					t.Errorf("%v %s %v: %v, %v, want %v", x, op.Sign(), y, got, ok, want)
				}
			}
		}
	}
}

func TestWorkHasAll(t *testing.T) {
	numbers := someOfEach(append(small(), great()...))
	for op := tree.Add; op <= tree.Remainder; op++ {
		for x, left := range numbers {
			for y, right := range numbers {
				got, ok := Domain{}.Work(op, x, y)
				if stops := op.HasSite() && y == alone(0); ok == stops || !isValue(got) || stops && got != alone(0) {
					t.Errorf("%v %s %v: %v, %v", x, op.Sign(), y, got, ok)
				}
				for _, n := range worked(op, left, right) {
					if !contains(got, n) {
						t.Fatalf("%v %s %v: %v has no %d", x, op.Sign(), y, got, n)
					}
				}
			}
		}
	}
}

// Of two numbers alone, the value is what a run works out.
func TestWorkOfNumbersAlone(t *testing.T) {
	numbers := []int16{0, 1, -1, 2, -3, 7, 300, -32767, least, most}
	for op := tree.Add; op <= tree.Remainder; op++ {
		for _, a := range numbers {
			for _, b := range numbers {
				n, stays := op.Work(a, b)
				if got, ok := (Domain{}).Work(op, alone(int64(a)), alone(int64(b))); got != alone(int64(n)) || ok != stays {
					t.Errorf("%d %s %d: %v, %v, want %d, %v", a, op.Sign(), b, got, ok, n, stays)
				}
			}
		}
	}
}

type work struct {
	op         tree.Op
	x, y, want Value
}

func checkWork(t *testing.T, all []work) {
	t.Helper()
	for _, e := range all {
		if got, ok := (Domain{}).Work(e.op, e.x, e.y); !ok || got != e.want {
			t.Errorf("%v %s %v: %v, %v, want %v", e.x, e.op.Sign(), e.y, got, ok, e.want)
		}
	}
}

func TestWorkOfGreatModuli(t *testing.T) {
	checkWork(t, []work{
		{tree.Add, Value{65536, 65535}, alone(1), Value{65536, 0}},
		{tree.Add, Value{65536, 3}, Value{65536, 65535}, Value{65536, 2}},
		{tree.Add, Value{65535, 3}, alone(1), whole()},
		{tree.Add, Value{40000, 39000}, alone(1), Value{64, 25}},
		{tree.Add, alone(least), Value{32768, 5}, Value{32768, 5}},
		{tree.Subtract, Value{65536, 0}, alone(1), Value{65536, 65535}},
		{tree.Subtract, alone(-1), Value{32768, 32767}, Value{32768, 0}},
		{tree.Subtract, alone(0), Value{49152, 3}, Value{16384, 16381}},
		{tree.Multiply, Value{256, 0}, Value{256, 0}, Value{65536, 0}},
		{tree.Multiply, Value{512, 0}, Value{256, 0}, Value{65536, 0}},
		{tree.Multiply, Value{256, 128}, Value{256, 128}, Value{32768, 16384}},
		{tree.Multiply, Value{65536, 65535}, Value{65536, 65535}, Value{65536, 1}},
		{tree.Multiply, Value{65536, 0}, alone(-1), Value{65536, 0}},
		{tree.Multiply, Value{65535, 0}, Value{65535, 0}, whole()},
		{tree.Multiply, Value{32768, 1}, alone(2), Value{65536, 2}},
		{tree.Multiply, Value{32768, 1}, alone(least), Value{65536, 32768}},
		{tree.Multiply, Value{3, 1}, alone(-4), Value{4, 0}},
		{tree.Multiply, whole(), alone(0), alone(0)},
		{tree.Multiply, alone(0), Value{65536, 0}, alone(0)},
	})
}

func TestDivision(t *testing.T) {
	checkWork(t, []work{
		{tree.Divide, alone(-7), alone(2), alone(-3)},
		{tree.Divide, alone(least), alone(-1), alone(least)},
		{tree.Divide, Value{4, 0}, alone(4), whole()},
		{tree.Divide, Value{4, 0}, alone(1), whole()},
		{tree.Divide, alone(0), Value{2, 1}, whole()},
		{tree.Divide, Value{2, 0}, Value{2, 0}, whole()},
		{tree.Remainder, alone(-7), alone(2), alone(-1)},
		{tree.Remainder, alone(least), alone(-1), alone(0)},
		{tree.Remainder, Value{12, 5}, alone(12), Value{12, 5}},
		{tree.Remainder, Value{12, 5}, alone(-8), Value{4, 1}},
		{tree.Remainder, Value{12, 5}, alone(5), whole()},
		{tree.Remainder, Value{12, 5}, alone(1), whole()},
		{tree.Remainder, Value{12, 9}, Value{18, 6}, Value{6, 3}},
		{tree.Remainder, Value{12, 9}, Value{18, 3}, Value{3, 0}},
		{tree.Remainder, Value{12, 9}, Value{12, 0}, Value{12, 9}},
		{tree.Remainder, alone(7), Value{12, 0}, Value{12, 7}},
		{tree.Remainder, alone(-7), Value{12, 0}, Value{12, 5}},
		{tree.Remainder, alone(-7), Value{12, 8}, Value{4, 1}},
		{tree.Remainder, alone(0), Value{15, 5}, Value{5, 0}},
		{tree.Remainder, Value{65536, 7}, Value{65536, 0}, Value{65536, 7}},
		{tree.Remainder, Value{65535, 7}, alone(least), whole()},
		{tree.Remainder, Value{65536, 32775}, alone(least), Value{32768, 7}},
	})
	for _, op := range []tree.Op{tree.Divide, tree.Remainder} {
		for _, x := range []Value{alone(0), alone(7), whole(), {4, 1}} {
			if got, ok := (Domain{}).Work(op, x, alone(0)); ok || got != (Value{}) {
				t.Errorf("%v %s 0: %v, %v", x, op.Sign(), got, ok)
			}
		}
	}
}

func TestNegate(t *testing.T) {
	for x, want := range map[Value]Value{
		alone(0):       alone(0),
		alone(7):       alone(-7),
		alone(most):    alone(-most),
		alone(least):   alone(least),
		whole():        whole(),
		{4, 1}:         {4, 3},
		{4, 0}:         {4, 0},
		{12, 5}:        {4, 3},
		{15, 5}:        whole(),
		{65536, 1}:     {65536, 65535},
		{65536, 32768}: {65536, 32768},
		{65535, 1}:     whole(),
		{40000, 1}:     {64, 63},
	} {
		if got := (Domain{}).Negate(x); got != want {
			t.Errorf("- %v: %v, want %v", x, got, want)
		}
	}
}

// common is the greatest common divisor, found by what it is.
func common(a, b int64) int64 {
	a, b = max(a, -a), max(b, -b)
	if a == 0 || b == 0 {
		return a + b
	}
	for d := min(a, b); ; d-- {
		if a%d == 0 && b%d == 0 {
			return d
		}
	}
}

// A join has both in it, is the same whichever stands ahead, and has no greater modulus that would do.
func TestJoin(t *testing.T) {
	d := Domain{}
	all := append(small(), great()...)
	for _, x := range all {
		for _, y := range all {
			got := d.Join(x, y)
			if !isValue(got) || got != d.Join(y, x) || d.Join(got, x) != got || d.Join(got, y) != got {
				t.Errorf("%v joined with %v: %v", x, y, got)
			}
		}
		if d.Join(x, x) != x {
			t.Errorf("%v joined with itself: %v", x, d.Join(x, x))
		}
	}
	for _, x := range small() {
		for _, y := range small() {
			want := common(common(x.modulus, y.modulus), x.rest-y.rest)
			if got := d.Join(x, y); got.modulus != want {
				t.Errorf("%v joined with %v: %v, want modulus %d", x, y, got, want)
			}
		}
	}
}

func TestJoinAtTheEdges(t *testing.T) {
	for _, e := range [][3]Value{
		{alone(least), alone(most), {65535, 32767}},
		{alone(least), alone(0), {32768, 0}},
		{alone(-1), alone(-3), {2, 1}},
		{alone(1), alone(-32767), {32768, 1}},
		{alone(5), Value{65536, 5}, {65536, 5}},
		{alone(-1), Value{65536, 65535}, {65536, 65535}},
		{alone(-1), Value{65536, 0}, whole()},
		{Value{65536, 1}, Value{65536, 65535}, {2, 1}},
		{Value{6, 1}, Value{4, 3}, {2, 1}},
		{Value{6, 1}, Value{9, 4}, {3, 1}},
		{Value{6, 1}, Value{9, 5}, whole()},
	} {
		if got := (Domain{}).Join(e[0], e[1]); got != e[2] {
			t.Errorf("%v joined with %v: %v, want %v", e[0], e[1], got, e[2])
		}
	}
}

// set has a bit for each number of a run.
type set [turn / 64]uint64

func setOf(x Value) *set {
	s := new(set)
	for n := int64(least); n <= most; n++ {
		if contains(x, int16(n)) {
			s[(n-least)/64] |= 1 << ((n - least) % 64)
		}
	}
	return s
}

// metBySets is the meet, found by all numbers that are in both.
func metBySets(x, y *set) (Value, bool) {
	var found []int64
	for i := 0; i < len(x) && len(found) < 2; i++ {
		for word := x[i] & y[i]; word != 0; word &= word - 1 {
			found = append(found, least+int64(64*i+bits.TrailingZeros64(word)))
		}
	}
	switch len(found) {
	case 0:
		return Value{}, false
	case 1:
		return alone(found[0]), true
	}
	apart := found[1] - found[0]
	return Value{apart, ((found[0] % apart) + apart) % apart}, true
}

func TestMeet(t *testing.T) {
	all := append(small(), great()...)
	sets := make([]*set, len(all))
	for i, x := range all {
		sets[i] = setOf(x)
	}
	for i, x := range all {
		for k, y := range all {
			got, ok := meet(x, y)
			if want, wantOk := metBySets(sets[i], sets[k]); got != want || ok != wantOk {
				t.Errorf("%v met with %v: %v, %v, want %v, %v", x, y, got, ok, want, wantOk)
			}
		}
	}
}

func TestConditions(t *testing.T) {
	d := Domain{}
	all := append(small(), great()...)
	for r := tree.Less; r <= tree.Greater; r++ {
		for _, x := range all {
			for _, y := range all {
				both, met := meet(x, y)
				may := true
				switch {
				case x.modulus == 0 && y.modulus == 0:
					may = r.Holds(int16(x.rest), int16(y.rest))
				case r == tree.Equal:
					may = met
				}
				if d.May(r, x, y) != may {
					t.Errorf("%v %s %v: %v", x, r.Sign(), y, !may)
				}
				want, wantOk := x, true
				if r == tree.Equal {
					want, wantOk = both, met
				}
				if got, ok := d.Bound(r, x, y); got != want || ok != wantOk {
					t.Errorf("%v by %s %v: %v, %v, want %v, %v", x, r.Sign(), y, got, ok, want, wantOk)
				}
			}
		}
	}
}

// Only a modulus of 0 makes a number alone: a class of which a run has just one number is not held to be it.
func TestConditionsOfOneNumber(t *testing.T) {
	five := Value{65536, 5}
	for r := tree.Less; r <= tree.Greater; r++ {
		if !(Domain{}).May(r, five, five) || !(Domain{}).May(r, five, alone(5)) || !(Domain{}).May(r, alone(5), five) {
			t.Errorf("%s can't hold between 5 and 5", r.Sign())
		}
	}
	if got, ok := (Domain{}).Bound(tree.Equal, five, five); !ok || got != alone(5) {
		t.Errorf("5 met with 5: %v, %v", got, ok)
	}
}

func TestWidenAndNarrow(t *testing.T) {
	d := Domain{}
	for _, x := range small() {
		for _, y := range small() {
			if d.Widen(x, y) != y || d.Narrow(x, y) != x {
				t.Errorf("%v to %v: widened %v, narrowed %v", x, y, d.Widen(x, y), d.Narrow(x, y))
			}
		}
	}
}

func TestTell(t *testing.T) {
	d := Domain{}
	for x, want := range map[Value]api.Value{
		d.Whole():       {A: 1, B: 0},
		d.Number(0):     {},
		d.Number(-7):    {A: 0, B: -7},
		d.Number(least): {A: 0, B: least},
		{65536, 65535}:  {A: 65536, B: 65535},
	} {
		if got := d.Tell(x); got != want {
			t.Errorf("%v: told %v, want %v", x, got, want)
		}
	}
}

func TestHasNought(t *testing.T) {
	for _, x := range append(small(), great()...) {
		if got := (Domain{}).HasNought(x); got != contains(x, 0) {
			t.Errorf("%v: 0 is in it: %v", x, got)
		}
	}
}
