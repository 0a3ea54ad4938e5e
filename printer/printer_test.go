package printer

import (
	"testing"

	"invariants/tree"
)

func TestSums(t *testing.T) {
	a, n := tree.Name(0), tree.Number(5)
	plus := tree.Binary{Op: tree.Add, Left: a, Right: n}
	times := tree.Binary{Op: tree.Multiply, Left: a, Right: n}
	for want, node := range map[string]tree.Sum{
		"a":               a,
		"5":               n,
		"a + 5":           plus,
		"--a":             tree.Negation{Of: tree.Negation{Of: a}},
		"-(a * 5)":        tree.Negation{Of: times},
		"a + 5 + a":       tree.Binary{Op: tree.Add, Left: plus, Right: a},
		"a - (a + 5)":     tree.Binary{Op: tree.Subtract, Left: a, Right: plus},
		"a - a * 5":       tree.Binary{Op: tree.Subtract, Left: a, Right: times},
		"(a + 5) / a":     tree.Binary{Op: tree.Divide, Left: plus, Right: a},
		"a * 5 % (a * 5)": tree.Binary{Op: tree.Remainder, Left: times, Right: times},
	} {
		if got := sum(node); got != want {
			t.Errorf("%q, want %q", got, want)
		}
	}
}

func TestLines(t *testing.T) {
	cond := tree.Cond{Relation: tree.NotEqual, Left: tree.Name(2), Right: tree.Number(0)}
	inner := tree.Block{tree.Read{Name: 3}}
	got := Text(tree.Block{
		tree.While{Cond: cond, Block: tree.Block{tree.If{Cond: cond, Then: inner, HasElse: true}}},
		tree.Assert{Cond: cond},
	})
	want := "while c != 0 {\n  if c != 0 {\n    read d;\n  } else {\n  }\n}\nassert c != 0;\n"
	if got != want {
		t.Errorf("%q, want %q", got, want)
	}
}
