package tree

import (
	"math"
	"testing"
)

func TestSigns(t *testing.T) {
	for sign, want := range map[string]Op{"+": Add, "-": Subtract, "*": Multiply, "/": Divide, "%": Remainder} {
		if got, ok := Ops()[sign]; !ok || got != want || want.Sign() != sign {
			t.Errorf("%q: %d, %v", sign, got, ok)
		}
	}
	for sign, want := range map[string]Relation{"<": Less, "<=": LessEqual, "==": Equal, "!=": NotEqual, ">=": GreaterEqual, ">": Greater} {
		if got, ok := Relations()[sign]; !ok || got != want || want.Sign() != sign {
			t.Errorf("%q: %d, %v", sign, got, ok)
		}
	}
	if len(Ops()) != 5 || len(Relations()) != 6 {
		t.Errorf("%d and %d signs", len(Ops()), len(Relations()))
	}
}

func TestLevels(t *testing.T) {
	for want, all := range map[Level][]Sum{
		Sums:     {Binary{Op: Add}, Binary{Op: Subtract}},
		Products: {Binary{Op: Multiply}, Binary{Op: Divide}, Binary{Op: Remainder}},
		Unaries:  {Number(1), Name(0), Negation{Of: Binary{Op: Add}}},
	} {
		for _, s := range all {
			if s.Level() != want {
				t.Errorf("%#v: level %d, want %d", s, s.Level(), want)
			}
		}
	}
}

func TestPoints(t *testing.T) {
	for _, s := range []Statement{Assign{Point: 7}, Read{Point: 7}, Assert{Point: 7, Site: 1}, If{Point: 7}, While{Point: 7}} {
		if s.Where() != 7 {
			t.Errorf("%#v: point %d", s, s.Where())
		}
	}
}

// A sign has a site just if there are numbers at which it stops.
func TestWork(t *testing.T) {
	for o, want := range map[Op]int16{Add: -5, Subtract: -9, Multiply: -14, Divide: -3, Remainder: -1} {
		if got, ok := o.Work(-7, 2); !ok || got != want {
			t.Errorf("-7 %s 2: %d, %v", o.Sign(), got, ok)
		}
		if _, ok := o.Work(5, 0); ok == o.HasSite() {
			t.Errorf("5 %s 0: %v", o.Sign(), ok)
		}
	}
	for o, want := range map[Op]int16{Add: math.MaxInt16, Subtract: math.MinInt16 + 1, Multiply: math.MinInt16, Divide: math.MinInt16, Remainder: 0} {
		if got, ok := o.Work(math.MinInt16, -1); !ok || got != want {
			t.Errorf("MIN %s -1: %d, %v", o.Sign(), got, ok)
		}
	}
}

func TestHolds(t *testing.T) {
	for r, want := range map[Relation][3]bool{
		Less: {true, false, false}, LessEqual: {true, true, false}, Equal: {false, true, false},
		NotEqual: {true, false, true}, GreaterEqual: {false, true, true}, Greater: {false, false, true},
	} {
		if got := [3]bool{r.Holds(-2, 1), r.Holds(1, 1), r.Holds(1, -2)}; got != want {
			t.Errorf("%s: %v, want %v", r.Sign(), got, want)
		}
	}
}

// Of two numbers, a relation holds just where its opposite doesn't, and where its mirror holds of them changed about.
func TestOppositesAndMirrors(t *testing.T) {
	for sign, r := range Relations() {
		for _, pair := range [][2]int16{{-2, 1}, {1, 1}, {1, -2}, {math.MinInt16, math.MaxInt16}} {
			x, y := pair[0], pair[1]
			if r.Holds(x, y) == r.Opposite().Holds(x, y) {
				t.Errorf("%s and %s both tell %v of %d and %d", sign, r.Opposite().Sign(), r.Holds(x, y), x, y)
			}
			if r.Holds(x, y) != r.Mirror().Holds(y, x) {
				t.Errorf("%d %s %d is not %d %s %d", x, sign, y, y, r.Mirror().Sign(), x)
			}
		}
	}
}
