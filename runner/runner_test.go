package runner

import (
	"reflect"
	"testing"

	"invariants/api"
	"invariants/tree"
)

// while a < b { a = 6 / a; } with b read ahead of it, as a tree.
func program() tree.Program {
	a, b := tree.Name(0), tree.Name(1)
	division := tree.Binary{Op: tree.Divide, Site: 5, Left: tree.Number(6), Right: a}
	return tree.Program{
		Block: tree.Block{
			tree.Read{Point: 3, Name: b},
			tree.While{
				Point: 4,
				Cond:  tree.Cond{Relation: tree.Less, Left: a, Right: b},
				Block: tree.Block{tree.Assign{Point: 6, Name: a, Sum: division}},
			},
		},
		End: 9,
	}
}

func TestRun(t *testing.T) {
	for _, e := range []struct {
		input int16
		fuel  int
		want  api.Trace
	}{
		{0, 9, api.Trace{Visits: []api.Visit{{Point: 3}, {Point: 4}, {Point: 9}}, Stop: api.Ended}},
		{0, 2, api.Trace{Visits: []api.Visit{{Point: 3}, {Point: 4}}, Stop: api.Spent}},
		{1, 9, api.Trace{Visits: []api.Visit{{Point: 3}, {Point: 4, Store: api.Store{0, 1}}, {Point: 6, Store: api.Store{0, 1}}}, Stop: 5}},
		{1, 0, api.Trace{Stop: api.Spent}},
	} {
		if got := Run(program(), []int16{e.input}, e.fuel); !reflect.DeepEqual(got, e.want) {
			t.Errorf("input %d, fuel %d: %v, want %v", e.input, e.fuel, got, e.want)
		}
	}
}
