package tree

import "testing"

func TestSigns(t *testing.T) {
	for sign, want := range map[string]Op{"+": Add, "-": Subtract, "*": Multiply, "/": Divide, "%": Remainder} {
		if got, ok := Ops()[sign]; !ok || got != want || want.Sign() != sign {
			t.Errorf("%q: %d, %v", sign, got, ok)
		}
	}
	for sign, want := range map[string]Relation{"<": Less, "<=": LessEqual, "==": Equal, "!=": NotEqual, ">=": GreaterEqual, ">": Greater} {
		if got, ok := Relations()[sign]; !ok || got != want || want.Sign() != sign {
			t.Errorf("%q: %d, %v", sign, got, ok)
		}
	}
	if len(Ops()) != 5 || len(Relations()) != 6 {
		t.Errorf("%d and %d signs", len(Ops()), len(Relations()))
	}
}

func TestLevels(t *testing.T) {
	for want, all := range map[Level][]Sum{
		Sums:     {Binary{Op: Add}, Binary{Op: Subtract}},
		Products: {Binary{Op: Multiply}, Binary{Op: Divide}, Binary{Op: Remainder}},
		Unaries:  {Number(1), Name(0), Negation{Of: Binary{Op: Add}}},
	} {
		for _, s := range all {
			if s.Level() != want {
				t.Errorf("%#v: level %d, want %d", s, s.Level(), want)
			}
		}
	}
}
