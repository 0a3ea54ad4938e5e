package reader

import (
	"reflect"
	"slices"
	"strings"
	"testing"

	"invariants/api"
	"invariants/tree"
)

func TestScan(t *testing.T) {
	src := " ab\n12<= <!=(;!"
	want := []token{
		{api.Place{At: 1}, word, "ab"},
		{api.Place{At: 4}, number, "12"},
		{api.Place{At: 6}, sign, "<="},
		{api.Place{At: 9}, sign, "<"},
		{api.Place{At: 10}, sign, "!="},
		{api.Place{At: 12}, sign, "("},
		{api.Place{At: 13}, sign, ";"},
		{api.Place{At: 14}, none, ""},
	}
	at := 0
	for _, w := range want {
		got := scan(src, at)
		if got != w {
			t.Errorf("at %d: %v, want %v", at, got, w)
		}
		at = got.Where() + len(got.text)
	}
	if got := scan("a ", 1); got != (token{api.Place{At: 2}, end, ""}) {
		t.Errorf("at the end: %v", got)
	}
}

func TestTrees(t *testing.T) {
	a, b, c := tree.Name(0), tree.Name(1), tree.Name(2)
	for src, want := range map[string]tree.Sum{
		"a":       a,
		"32767":   tree.Number(32767),
		"((h))":   tree.Name(7),
		"-a":      tree.Negation{Of: a},
		"-a*b":    tree.Binary{Op: tree.Multiply, Left: tree.Negation{Of: a}, Right: b},
		"a-b-c":   tree.Binary{Op: tree.Subtract, Left: tree.Binary{Op: tree.Subtract, Left: a, Right: b}, Right: c},
		"a-(b-c)": tree.Binary{Op: tree.Subtract, Left: a, Right: tree.Binary{Op: tree.Subtract, Left: b, Right: c}},
		"a/b%c":   tree.Binary{Op: tree.Remainder, Site: 1, Left: tree.Binary{Op: tree.Divide, Left: a, Right: b}, Right: c},
		"a/(b%c)": tree.Binary{Op: tree.Divide, Left: a, Right: tree.Binary{Op: tree.Remainder, Site: 1, Left: b, Right: c}},
		"a+b*c":   tree.Binary{Op: tree.Add, Left: a, Right: tree.Binary{Op: tree.Multiply, Left: b, Right: c}},
	} {
		got, err := Program("a=" + src + ";")
		if err != nil || got.End != 1 || !reflect.DeepEqual(got.Block, tree.Block{tree.Assign{Name: a, Sum: want}}) {
			t.Errorf("%q: %#v, %v", src, got, err)
		}
	}
}

func TestStatements(t *testing.T) {
	cond := tree.Cond{Relation: tree.GreaterEqual, Left: tree.Name(0), Right: tree.Number(1)}
	got, err := Program("read b;assert a>=1;if a>=1{}if a>=1{}else{}while a>=1{read b;}")
	want := tree.Program{Block: tree.Block{
		tree.Read{Name: 1},
		tree.Assert{Point: 1, Cond: cond},
		tree.If{Point: 2, Cond: cond},
		tree.If{Point: 3, Cond: cond, HasElse: true},
		tree.While{Point: 4, Cond: cond, Block: tree.Block{tree.Read{Point: 5, Name: 1}}},
	}, End: 6, Sites: 1, Numbers: []tree.Number{1, 1, 1, 1}}
	if err != nil || !reflect.DeepEqual(got, want) {
		t.Errorf("%#v, %v", got, err)
	}
}

// The word of an assert stands ahead of the signs in its condition; a block's points lie between its statement's and the next one's.
func TestPointsAndSites(t *testing.T) {
	got, err := Program("if a<b{assert a/b==a%b;}else{assert a<b;}assert a<b;")
	a, b := tree.Name(0), tree.Name(1)
	less := tree.Cond{Left: a, Right: b}
	signs := tree.Cond{
		Relation: tree.Equal,
		Left:     tree.Binary{Op: tree.Divide, Site: 1, Left: a, Right: b},
		Right:    tree.Binary{Op: tree.Remainder, Site: 2, Left: a, Right: b},
	}
	want := tree.Program{Block: tree.Block{
		tree.If{
			Cond:    less,
			Then:    tree.Block{tree.Assert{Point: 1, Cond: signs}},
			Else:    tree.Block{tree.Assert{Point: 2, Site: 3, Cond: less}},
			HasElse: true,
		},
		tree.Assert{Point: 3, Site: 4, Cond: less},
	}, End: 4, Sites: 5}
	if err != nil || !reflect.DeepEqual(got, want) {
		t.Errorf("%#v, %v", got, err)
	}
}

// All numbers of the text are there, wherever they stand, in their order.
func TestNumbers(t *testing.T) {
	got, err := Program("a=-7+0*(32767);if 3<a{while a!=b{b=4;}}else{assert b>=-(5);}")
	want := []tree.Number{7, 0, 32767, 3, 4, 5}
	if err != nil || !slices.Equal(got.Numbers, want) || got.Sites != 1 {
		t.Errorf("%v, %d sites, %v, want %v", got.Numbers, got.Sites, err, want)
	}
}

func TestFaults(t *testing.T) {
	for src, want := range map[string]api.Fault{
		"a=1":                            {Place: api.Place{At: 3}, Err: api.ErrSyntax},
		"a=$":                            {Place: api.Place{At: 2}, Err: api.ErrSyntax},
		"a=" + strings.Repeat("-(", 7):   {Place: api.Place{At: 14}, Err: api.ErrDepth},
		strings.Repeat("while a<b{", 13): {Place: api.Place{At: 129}, Err: api.ErrDepth},
	} {
		program, err := Program(src)
		fault, ok := err.(*api.Fault)
		if !ok || *fault != want || program.Block != nil || program.End != 0 {
			t.Errorf("%q: %v, %v, want %v", src, program, err, want)
		}
	}
	if program, err := Program(strings.Repeat(" ", api.MaxText+1)); err != api.ErrLong || program.Block != nil || program.End != 0 {
		t.Errorf("too long: %v, %v", program, err)
	}
}
