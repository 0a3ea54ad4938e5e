package invariants_test

import (
	"fmt"
	"math"
	"reflect"
	"slices"
	"strconv"
	"strings"
	"testing"

	"invariants/api"
	"invariants/invariants"
)

// ran tells what Run answers in one text: each visit's point, with the variables that are not 0, and how the run stops; or the error.
func ran(src string, inputs []int16, fuel int) string {
	trace, err := invariants.Run(src, inputs, fuel)
	if err != nil {
		return told(err)
	}
	return traced(trace)
}

func traced(trace api.Trace) string {
	var text strings.Builder
	for _, visit := range trace.Visits {
		text.WriteString(strconv.Itoa(visit.Point))
		for name, n := range visit.Store {
			if n != 0 {
				fmt.Fprintf(&text, "%c%d", 'a'+name, n)
			}
		}
		text.WriteString(" ")
	}
	switch trace.Stop {
	case api.Ended:
		text.WriteString("ended")
	case api.Spent:
		text.WriteString("spent")
	default:
		fmt.Fprintf(&text, "site %d", trace.Stop)
	}
	return text.String()
}

func fuelError() string { return fmt.Sprintf("error %d at 0", api.ErrFuel) }

type runExample struct {
	src    string
	inputs []int16
	fuel   int
	want   string
}

func checkRuns(t *testing.T, examples []runExample) {
	t.Helper()
	for _, e := range examples {
		if got := ran(e.src, e.inputs, e.fuel); got != e.want {
			t.Errorf("Run(%q, %v, %d):\n%s\nwant\n%s", e.src, e.inputs, e.fuel, got, e.want)
		}
	}
}

func TestP6Examples(t *testing.T) {
	checkRuns(t, []runExample{
		{"read a;b=a/2;c=a%2;", []int16{-7}, 9, "0 1a-7 2a-7b-3 3a-7b-3c-1 ended"},
		{"while a<3{a=a+1;}", nil, 50, "0 1 0a1 1a1 0a2 1a2 0a3 2a3 ended"},
		{"a=1;b=2;", nil, 2, "0 1a1 spent"},
		{"read a;b=6/a+6%(a-1);", []int16{1}, 9, "0 1a1 site 1"},
	})
}

// worked is what a run puts into h, with the inputs in a, b and c.
func worked(t *testing.T, sum string, inputs ...int16) int16 {
	t.Helper()
	src := "read a;read b;read c;h=" + sum + ";"
	trace, err := invariants.Run(src, inputs, 5)
	if err != nil || trace.Stop != api.Ended || len(trace.Visits) != 5 {
		t.Errorf("Run(%q, %v): %v, %v", src, inputs, trace, err)
		return 0
	}
	return trace.Visits[4].Store[7]
}

type sumExample struct {
	sum    string
	inputs []int16
	want   int16
}

func checkSums(t *testing.T, examples []sumExample) {
	t.Helper()
	for _, e := range examples {
		if got := worked(t, e.sum, e.inputs...); got != e.want {
			t.Errorf("%s of %v is %d, want %d", e.sum, e.inputs, got, e.want)
		}
	}
}

func TestP6FromTheLeftOn(t *testing.T) {
	checkSums(t, []sumExample{
		{"2-3-4", nil, -5},
		{"2-(3-4)", nil, 3},
		{"2-3+4", nil, 3},
		{"100/7/2", nil, 7},
		{"100/(7/2)", nil, 33},
		{"17%10%4", nil, 3},
		{"17%(10%4)", nil, 1},
		{"7/2*2", nil, 6},
		{"2*7/4", nil, 3},
		{"2*(7/4)", nil, 2},
		{"9%4*2", nil, 2},
		{"1+2*3", nil, 7},
		{"(1+2)*3", nil, 9},
		{"1-6/2", nil, -2},
		{"-2*3", nil, -6},
		{"-(2-5)", nil, 3},
		{"- - -4", nil, -4},
		{"1- -2", nil, 3},
		{"-7/2", nil, -3},
		{"-(7/2)", nil, -3},
		{"-7%2", nil, -1},
		{"a-b", []int16{1, 2}, -1},
		{"a/b", []int16{6, 3}, 2},
		{"a%b", []int16{6, 4}, 2},
		{"32767+1-1", nil, 32767},
		{"200*200/2", nil, -12768},
	})
}

func TestP6WrapRound(t *testing.T) {
	const least, most = math.MinInt16, math.MaxInt16
	checkSums(t, []sumExample{
		{"a+b", []int16{most, 1}, least},
		{"a+b", []int16{most, most}, -2},
		{"a+b", []int16{least, -1}, most},
		{"a+b", []int16{least, least}, 0},
		{"a+b", []int16{most, least}, -1},
		{"a-b", []int16{least, 1}, most},
		{"a-b", []int16{most, -1}, least},
		{"a-b", []int16{0, least}, least},
		{"a-b", []int16{least, most}, 1},
		{"a-b", []int16{-1, least}, most},
		{"a*b", []int16{200, 200}, -25536},
		{"a*b", []int16{256, 256}, 0},
		{"a*b", []int16{256, 128}, least},
		{"a*b", []int16{most, most}, 1},
		{"a*b", []int16{least, least}, 0},
		{"a*b", []int16{least, -1}, least},
		{"a*b", []int16{181, 181}, 32761},
		{"a*b", []int16{-182, 182}, 32412},
		{"-a", []int16{least}, least},
		{"-a", []int16{most}, -most},
		{"-a", []int16{-most}, most},
		{"--a", []int16{least}, least},
		{"32767+1", nil, least},
		{"-32767-2", nil, most},
	})
}

func TestP6Division(t *testing.T) {
	const least, most = math.MinInt16, math.MaxInt16
	checkSums(t, []sumExample{
		{"a/b", []int16{7, 2}, 3},
		{"a%b", []int16{7, 2}, 1},
		{"a/b", []int16{-7, 2}, -3},
		{"a%b", []int16{-7, 2}, -1},
		{"a/b", []int16{7, -2}, -3},
		{"a%b", []int16{7, -2}, 1},
		{"a/b", []int16{-7, -2}, 3},
		{"a%b", []int16{-7, -2}, -1},
		{"a/b", []int16{0, -5}, 0},
		{"a%b", []int16{0, -5}, 0},
		{"a/b", []int16{3, 5}, 0},
		{"a%b", []int16{-3, 5}, -3},
		{"a/b", []int16{-1, 2}, 0},
		{"a/b", []int16{least, -1}, least},
		{"a%b", []int16{least, -1}, 0},
		{"a/b", []int16{least, 1}, least},
		{"a%b", []int16{least, 1}, 0},
		{"a/b", []int16{least, least}, 1},
		{"a%b", []int16{least, least}, 0},
		{"a/b", []int16{most, least}, 0},
		{"a%b", []int16{most, least}, most},
		{"a/b", []int16{least, most}, -1},
		{"a%b", []int16{least, most}, -1},
		{"a/b", []int16{least, 2}, -16384},
		{"a/b", []int16{most, -1}, -most},
		{"a%b", []int16{most, -1}, 0},
	})
}

func TestP6Read(t *testing.T) {
	checkRuns(t, []runExample{
		{"read a;read b;read a;", []int16{1, 2, 3}, 9, "0 1a1 2a1b2 3a3b2 ended"},
		{"read a;read b;read c;", []int16{5, -7}, 9, "0 1a5 2a5b-7 3a5b-7 ended"},
		{"a=9;read a;", nil, 9, "0 1a9 2 ended"},
		{"a=9;b=8;read a;read b;", []int16{4}, 9, "0 1a9 2a9b8 3a4b8 4a4 ended"},
		{"read a;", []int16{math.MinInt16, 1, 2}, 9, "0 1a-32768 ended"},
		{"a=1;", []int16{7}, 9, "0 1a1 ended"},
		{"while a<3{read a;}", []int16{1, 2, 3, 4}, 9, "0 1 0a1 1a1 0a2 1a2 0a3 2a3 ended"},
	})
}

func TestP6Variables(t *testing.T) {
	checkRuns(t, []runExample{
		{"a=1;b=2;c=3;d=4;e=5;f=6;g=7;h=8;", nil, 9,
			"0 1a1 2a1b2 3a1b2c3 4a1b2c3d4 5a1b2c3d4e5 6a1b2c3d4e5f6 7a1b2c3d4e5f6g7 8a1b2c3d4e5f6g7h8 ended"},
		{"a=a+1;a=a+1;b=h;", nil, 9, "0 1a1 2a2 3a2 ended"},
		{"read h;g=h;h=0;", []int16{-1}, 9, "0 1h-1 2g-1h-1 3g-1 ended"},
	})
}

func TestP6Conditions(t *testing.T) {
	for sign, holds := range map[string]func(a, b int) bool{
		"<":  func(a, b int) bool { return a < b },
		"<=": func(a, b int) bool { return a <= b },
		"==": func(a, b int) bool { return a == b },
		"!=": func(a, b int) bool { return a != b },
		">=": func(a, b int) bool { return a >= b },
		">":  func(a, b int) bool { return a > b },
	} {
		numbers := []int16{math.MinInt16, -1, 0, 1, math.MaxInt16}
		for _, a := range numbers {
			for _, b := range numbers {
				src := "read a;read b;if a" + sign + "b{c=1;}else{c=2;}"
				trace, err := invariants.Run(src, []int16{a, b}, 9)
				want := int16(2)
				if holds(int(a), int(b)) {
					want = 1
				}
				if err != nil || len(trace.Visits) != 5 || trace.Visits[4].Store[2] != want {
					t.Errorf("%d %s %d: %v, %v", a, sign, b, trace, err)
				}
			}
		}
	}
}

func TestP6Points(t *testing.T) {
	checkRuns(t, []runExample{
		{"", nil, 5, "0 ended"},
		{" \n", nil, 5, "0 ended"},
		{"if a==0{b=1;}c=1;", nil, 9, "0 1 2b1 3b1c1 ended"},
		{"if a!=0{b=1;}c=1;", nil, 9, "0 2 3c1 ended"},
		{"if a==0{b=1;}else{b=2;}c=1;", nil, 9, "0 1 3b1 4b1c1 ended"},
		{"if a!=0{b=1;}else{b=2;}c=1;", nil, 9, "0 2 3b2 4b2c1 ended"},
		{"if a==0{}else{b=2;}", nil, 9, "0 2 ended"},
		{"if a!=0{}else{b=2;}", nil, 9, "0 1 2b2 ended"},
		{"if a==0{if a==1{b=1;}else{b=2;}b=3;}else{b=4;b=5;}b=6;", nil, 9, "0 1 3 4b2 7b3 8b6 ended"},
		{"while a>0{b=1;}c=1;", nil, 9, "0 2 3c1 ended"},
		{"while a<2{a=a+1;}c=1;", nil, 9, "0 1 0a1 1a1 0a2 2a2 3a2c1 ended"},
		{"while a<1{a=1;b=2;}", nil, 9, "0 1 2a1 0a1b2 3a1b2 ended"},
		{"while a<2{b=0;while b<1{b=1;}a=a+1;}", nil, 99, "0 1 2 3 2b1 4b1 0a1b1 1a1b1 2a1 3a1 2a1b1 4a1b1 0a2b1 5a2b1 ended"},
		{"while a<2{if a==0{a=1;}else{a=2;}}", nil, 99, "0 1 2 0a1 1a1 3a1 0a2 4a2 ended"},
		{"while a<1{a=1;if a==0{b=1;}}", nil, 99, "0 1 2a1 0a1 4a1 ended"},
		{"assert a==0;assert 1<2;", nil, 9, "0 1 2 ended"},
	})
}

func TestP6Fuel(t *testing.T) {
	checkRuns(t, []runExample{
		{"", nil, 0, "spent"},
		{"", nil, 1, "0 ended"},
		{"a=1;b=2;", nil, 0, "spent"},
		{"a=1;b=2;", nil, 1, "0 spent"},
		{"a=1;b=2;", nil, 2, "0 1a1 spent"},
		{"a=1;b=2;", nil, 3, "0 1a1 2a1b2 ended"},
		{"a=1;b=2;", nil, 4, "0 1a1 2a1b2 ended"},
		{"while a==0{}", nil, 3, "0 0 0 spent"},
		{"while a==0{b=b+1;}", nil, 3, "0 1 0b1 spent"},
		{"while a<1{a=1;}", nil, 2, "0 1 spent"},
		{"while a<1{a=1;}", nil, 3, "0 1 0a1 spent"},
		{"while a<1{a=1;}", nil, 4, "0 1 0a1 2a1 ended"},
		{"if a<1{a=1;}", nil, 1, "0 spent"},
		{"if a<1{a=1;}", nil, 2, "0 1 spent"},
		{"if a<1{a=1;}", nil, 3, "0 1 2a1 ended"},
		{"", nil, api.MaxFuel, "0 ended"},
		{"while a==0{}", nil, api.MaxFuel, strings.Repeat("0 ", api.MaxFuel) + "spent"},
	})
}

// 1 + 2 * 249 visits of the loop and its block, and the end: all that there is.
func TestP6AllFuel(t *testing.T) {
	src := "while a<249{a=a+1;}"
	just, err := invariants.Run(src, nil, api.MaxFuel)
	if err != nil || just.Stop != api.Ended || len(just.Visits) != api.MaxFuel {
		t.Errorf("%d visits, stop %d, %v", len(just.Visits), just.Stop, err)
	}
	short, err := invariants.Run(src, nil, api.MaxFuel-1)
	if err != nil || short.Stop != api.Spent || len(short.Visits) != api.MaxFuel-1 {
		t.Errorf("%d visits, stop %d, %v", len(short.Visits), short.Stop, err)
	}
}

func TestP6FuelErrors(t *testing.T) {
	for _, fuel := range []int{math.MinInt, -api.MaxFuel, -2, -1, api.MaxFuel + 1, math.MaxInt16, 1 << 16, math.MaxInt} {
		for _, src := range []string{"", "a=1;", "a=1/0;", "while a<1{}"} {
			trace, err := invariants.Run(src, []int16{1}, fuel)
			if err != api.ErrFuel || trace.Visits != nil || trace.Stop != 0 {
				t.Errorf("Run(%q, fuel %d): %v, %v", src, fuel, trace, err)
			}
		}
		checkRuns(t, []runExample{
			{"a=", nil, fuel, syntaxAt(2)},
			{"a=" + strings.Repeat("(", 13), nil, fuel, depthAt(14)},
			{strings.Repeat(" ", api.MaxText+1), nil, fuel, long()},
			{strings.Repeat(" ", api.MaxText), nil, fuel, fuelError()},
		})
	}
	checkRuns(t, []runExample{
		{"a=", nil, 9, syntaxAt(2)},
		{"a=1;b=;", nil, 0, syntaxAt(6)},
		{strings.Repeat(" ", api.MaxText+1), nil, 9, long()},
	})
}

func TestP7DivisionByNought(t *testing.T) {
	checkRuns(t, []runExample{
		{"a=1/0;b=2;", nil, 9, "0 site 0"},
		{"a=1%0;b=2;", nil, 9, "0 site 0"},
		{"a=0/0;", nil, 9, "0 site 0"},
		{"a=0%0;", nil, 9, "0 site 0"},
		{"read a;b=a/b;", []int16{math.MinInt16}, 9, "0 1a-32768 site 0"},
		{"a=1/(256*256);", nil, 9, "0 site 0"},
		{"a=1/1;b=1%1;c=1/b;d=1/0;", nil, 9, "0 1a1 2a1 site 2"},
		{"a=5;a=a/b;", nil, 9, "0 1a5 site 0"},
		{"a=1;if 1/a==1{b=1/c;}", nil, 9, "0 1a1 2a1 site 1"},
		{"if a/a<1{b=1;}else{b=2;}", nil, 9, "0 site 0"},
		{"while 9/(2-a)<100{a=a+1;}", nil, 50, "0 1 0a1 1a1 0a2 site 0"},
		{"while a<9{a=a+1;b=1%(2-a);}", nil, 50, "0 1 2a1 0a1 1a1 2a2 site 0"},
		{"a=-(1/0);", nil, 9, "0 site 0"},
	})
}

// The left side is worked out ahead of the right one, and both ahead of the sign between them.
func TestP7WhichSite(t *testing.T) {
	checkRuns(t, []runExample{
		{"a=1/0+1%0;", nil, 9, "0 site 0"},
		{"a=1/1+1%0;", nil, 9, "0 site 1"},
		{"a=1/(1%0);", nil, 9, "0 site 1"},
		{"a=1/0/(1/0);", nil, 9, "0 site 0"},
		{"a=1/1/(1/0);", nil, 9, "0 site 2"},
		{"a=1/1/0;", nil, 9, "0 site 1"},
		{"a=(1/0)/(1/0);", nil, 9, "0 site 0"},
		{"a=(1-1/0)*(2/0);", nil, 9, "0 site 0"},
		{"a=1*(2/0)-3%0;", nil, 9, "0 site 0"},
		{"a=1/0+1/(1/0);", nil, 9, "0 site 0"},
		{"a=1/(2/(3/0));", nil, 9, "0 site 2"},
		{"assert 1/0<2/0;", nil, 9, "0 site 1"},
		{"assert 1<2/0;", nil, 9, "0 site 1"},
		{"assert 1<0/(2/0);", nil, 9, "0 site 2"},
		{"if 1/0<2%0{}", nil, 9, "0 site 0"},
		{"if a>0{b=1/0;}else{b=1/0;}", nil, 9, "0 2 site 1"},
		{"if a>0{assert a<0;}b=1/0;", nil, 9, "0 2 site 1"},
		{"while a>0{b=1/0;}b=1%0;", nil, 9, "0 2 site 1"},
	})
}

func TestP7Assert(t *testing.T) {
	checkRuns(t, []runExample{
		{"assert a==0;assert a!=0;b=1;", nil, 9, "0 1 site 1"},
		{"assert a<0;", nil, 9, "0 site 0"},
		{"assert a<=0-1;", nil, 9, "0 site 0"},
		{"assert a==1;", nil, 9, "0 site 0"},
		{"assert a!=0;", nil, 9, "0 site 0"},
		{"assert a>=1;", nil, 9, "0 site 0"},
		{"assert a>0;", nil, 9, "0 site 0"},
		{"b=1/1;assert b%2==0;", nil, 9, "0 1b1 site 1"},
		{"assert 1/a<2;assert a<1;", nil, 9, "0 site 1"},
		{"a=3;while a>0{assert a!=1;a=a-1;}", nil, 50, "0 1a3 2a3 3a3 1a2 2a2 3a2 1a1 2a1 site 0"},
		{"read a;assert a>0;read b;assert b>0;", []int16{1}, 9, "0 1a1 2a1 3a1 site 1"},
		{"assert 32767+1<0;assert 32767+1>0;", nil, 9, "0 1 site 1"},
	})
}

// A statement that stops the run has been visited; if there is no fuel for that, it's not come to.
func TestP7Fuel(t *testing.T) {
	for _, src := range []string{"a=1/0;", "a=1%0;", "assert a>0;", "if 1/0<1{}", "while 1%0<1{}"} {
		checkRuns(t, []runExample{
			{src, nil, 1, "0 site 0"},
			{src, nil, 0, "spent"},
			{"b=1;" + src, nil, 1, "0 spent"},
			{"b=1;" + src, nil, 2, "0 1b1 site 0"},
		})
	}
}

func TestP7LastSite(t *testing.T) {
	asserts := strings.Repeat("assert 0<1;", 30)
	trace, err := invariants.Run(asserts+"a=1/0;", nil, api.MaxFuel)
	if err != nil || trace.Stop != 30 || len(trace.Visits) != 31 {
		t.Errorf("%d visits, stop %d, %v", len(trace.Visits), trace.Stop, err)
	}
	// The text's length lets no more signs stand in one sum; each is a site.
	signs := "a=1" + strings.Repeat("/1", 196) + "/0;"
	trace, err = invariants.Run(signs, nil, 1)
	if err != nil || trace.Stop != 196 {
		t.Errorf("stop %d, %v", trace.Stop, err)
	}
}

// The inputs are a piece of a longer list, of which the rest is no input.
func TestP2InputsStay(t *testing.T) {
	list := []int16{1, 2, 3, 4}
	if got, want := ran("read a;read b;read a;read c;a=7;", list[:2], 9), "0 1a1 2a1b2 3b2 4b2 5a7b2 ended"; got != want {
		t.Errorf("%s, want %s", got, want)
	}
	if !slices.Equal(list, []int16{1, 2, 3, 4}) {
		t.Errorf("the inputs are written into: %v", list)
	}
}

func TestP2FreshTraces(t *testing.T) {
	src, inputs := "read a;while a<3{a=a+1;}", []int16{1}
	first, err := invariants.Run(src, inputs, 50)
	if err != nil {
		t.Fatal(err)
	}
	want := traced(first)
	inputs[0] = 9
	if got := traced(first); got != want {
		t.Errorf("the trace is %s behind written inputs, was %s", got, want)
	}
	inputs[0] = 1
	for i := range first.Visits {
		first.Visits[i] = api.Visit{Point: 77}
	}
	if got := ran(src, inputs, 50); got != want {
		t.Errorf("%s behind a written trace, want %s", got, want)
	}
}

func drawInputs(draw func(int) int) []int16 {
	edges := []int16{math.MinInt16, -7, -1, 0, 1, 2, 9, math.MaxInt16}
	var inputs []int16
	for range draw(5) {
		inputs = append(inputs, edges[draw(len(edges))])
	}
	return inputs
}

// drawn are programs that are short enough to be one.
func drawn(seed uint64, count int) []string {
	draw := draws(seed)
	var all []string
	for len(all) < count {
		if src := "read a;read h;" + drawBlock(draw, 3) + drawBlock(draw, 3); len(src) <= api.MaxText {
			all = append(all, src)
		}
	}
	return all
}

func TestP6DrawnPrograms(t *testing.T) {
	draw := draws(6)
	stops := map[int]int{}
	for _, src := range drawn(7, 5000) {
		inputs, fuel := drawInputs(draw), draw(60)
		got, err := invariants.Run(src, inputs, fuel)
		want := stepped(t, src, inputs, fuel)
		if err != nil || !reflect.DeepEqual(got, want) {
			t.Errorf("Run(%q, %v, %d):\n%s, %v\nwant\n%s", src, inputs, fuel, traced(got), err, traced(want))
		}
		stops[min(got.Stop, 0)]++
	}
	for _, stop := range []int{api.Ended, api.Spent, 0} {
		if stops[stop] < 500 {
			t.Errorf("only %d runs stop so: %d", stops[stop], stop)
		}
	}
}

func TestP6AllSums(t *testing.T) {
	numbers := []int16{math.MinInt16, math.MinInt16 + 1, -181, -3, -1, 0, 1, 2, 182, math.MaxInt16}
	for _, sum := range append(sums(1), sums(2)...) {
		src := "read a;h=" + sum + ";"
		for _, a := range numbers {
			got, err := invariants.Run(src, []int16{a}, 3)
			if want := stepped(t, src, []int16{a}, 3); err != nil || !reflect.DeepEqual(got, want) {
				t.Errorf("Run(%q, %d): %s, %v, want %s", src, a, traced(got), err, traced(want))
			}
		}
	}
}

// More fuel makes a run go on from where it was, and one that has stopped otherwise stays as it is.
func TestP6MoreFuelGoesOn(t *testing.T) {
	draw := draws(8)
	for _, src := range drawn(9, 200) {
		inputs := drawInputs(draw)
		whole, _ := invariants.Run(src, inputs, api.MaxFuel)
		for fuel := range 20 {
			part, err := invariants.Run(src, inputs, fuel)
			if err != nil {
				t.Fatalf("Run(%q, %v, %d): %v", src, inputs, fuel, err)
			}
			if fuel >= len(whole.Visits) {
				if !reflect.DeepEqual(part, whole) {
					t.Errorf("Run(%q, %v, %d): %s, want %s", src, inputs, fuel, traced(part), traced(whole))
				}
			} else if !slices.Equal(part.Visits, whole.Visits[:fuel]) || part.Stop != api.Spent {
				t.Errorf("Run(%q, %v, %d): %s, of %s", src, inputs, fuel, traced(part), traced(whole))
			}
		}
	}
}

// What Print answers has the same runs.
func TestP5SameRuns(t *testing.T) {
	draw := draws(10)
	held := 0
	for _, src := range append(samples(), drawn(11, 2000)...) {
		text, err := invariants.Print(src)
		if err != nil {
			t.Fatalf("Print(%q): %v", src, err)
		}
		if len(text) > api.MaxText {
			continue
		}
		held++
		inputs := drawInputs(draw)
		if one, other := ran(src, inputs, 60), ran(text, inputs, 60); one != other {
			t.Errorf("Run(%q, %v): %s\nbut written in one form\n%s", src, inputs, one, other)
		}
	}
	if held < 1000 {
		t.Errorf("only %d programs are short enough", held)
	}
}
