package invariants_test

import (
	"math"
	"reflect"
	"strings"
	"testing"

	"invariants/api"
	"invariants/invariants"
)

func TestP13Unroll(t *testing.T) {
	two := "while a<2{a=a+1;}"
	checkReports(t, []analyzeExample{
		{two, api.Config{Unroll: 0}, "0 a0:MAX; 1 a0:1; 2 a2:MAX; "},
		{two, api.Config{Unroll: 1}, "0 a0:MAX; 1 a0:1; 2 a2:MAX; "},
		{two, api.Config{Unroll: 2}, "0 a0:2; 1 a0:1; 2 a2; "},
		{two, api.Config{Unroll: 3}, "0 a0:2; 1 a0:1; 2 a2; "},
		{"while a<10{a=a+1;}", api.Config{Unroll: 3}, "0 a0:MAX; 1 a0:9; 2 a10:MAX; "},
		// What goes out of an unrolled round is kept, and the loop from there on begins without it.
		{"read b;while b>0{b=0;a=a+1;}", api.Config{Unroll: 1}, "0; 1 a0:1 bMIN:MAX; 2 b1:MAX; 3; 4 a0:1 bMIN:0; "},
		{"read b;while b>0{b=0;a=a+1;}", api.Config{}, "0; 1 aMIN:MAX bMIN:MAX; 2 aMIN:MAX b1:MAX; 3 aMIN:MAX; 4 aMIN:MAX bMIN:0; "},
		// In the second round the condition has no value.
		{"b=1;while 6/b>0{b=b-1;}", api.Config{Unroll: 1}, "0; 1 b0:1; 2 b1; 3 -; A"},
		{"b=1;while 6/b>0{b=b-1;}", api.Config{}, "0; 1 bMIN:MAX; 2 bMIN:MAX; 3 bMIN:MAX; A"},
	})
}

func TestP13Delay(t *testing.T) {
	three := "while a<3{a=a+1;}"
	checkReports(t, []analyzeExample{
		{three, api.Config{Delay: 0}, "0 a0:MAX; 1 a0:2; 2 a3:MAX; "},
		{three, api.Config{Delay: 1}, "0 a0:MAX; 1 a0:2; 2 a3:MAX; "},
		{three, api.Config{Delay: 2}, "0 a0:MAX; 1 a0:2; 2 a3:MAX; "},
		{three, api.Config{Delay: 3}, "0 a0:3; 1 a0:2; 2 a3; "},
		{three, api.Config{Delay: 4}, "0 a0:3; 1 a0:2; 2 a3; "},
		{"while a<5{a=a+1;}", api.Config{Delay: 4}, "0 a0:MAX; 1 a0:4; 2 a5:MAX; "},
		{"while a>-3{a=a-1;}", api.Config{Delay: 3}, "0 a-3:0; 1 a-2:0; 2 a-3; "},
		// An unrolled round is none of those that are counted.
		{"while a<5{a=a+1;}", api.Config{Delay: 4, Unroll: 1}, "0 a0:5; 1 a0:4; 2 a5; "},
	})
}

func TestP13Thresholds(t *testing.T) {
	up, down := "while a<10{a=a+3;}", "a=5;while a>-10{a=a-4;}"
	checkReports(t, []analyzeExample{
		{"while a<=10{a=a+1;}b=11;", api.Config{Thresholds: true}, "0 a0:11; 1 a0:10; 2 a11; 3 a11 b11; "},
		{"while a<=10{a=a+1;}b=11;", api.Config{}, "0 a0:MAX; 1 a0:10; 2 a11:MAX; 3 a11:MAX b11; "},
		{"while a<=10{a=a+1;}b=12;", api.Config{Thresholds: true}, "0 a0:12; 1 a0:10; 2 a11:12; 3 a11:12 b12; "},
		{up, api.Config{Thresholds: true}, "0 a0:MAX; 1 a0:9; 2 a10:MAX; "},
		{up, api.Config{Thresholds: true, Narrow: 1}, "0 a0:12; 1 a0:9; 2 a10:12; "},
		{down, api.Config{Thresholds: true}, "0; 1 aMIN:5; 2 a-9:5; 3 aMIN:-10; "},
		{down, api.Config{Thresholds: true, Narrow: 1}, "0; 1 a-13:5; 2 a-9:5; 3 a-13:-10; "},
		// Both of n and -n are steps, wherever n stands: in a sum, in a condition, or in what is never come to.
		{"while a>-20{a=a-7;}if 0>1{b=26;}", api.Config{Thresholds: true}, "0 a-26:0; 1 a-19:0; 2 a-26:-20; 3 -; 4 a-26:-20; "},
		{"while a>-20{a=a-7;}assert 26>0;", api.Config{Thresholds: true}, "0 a-26:0; 1 a-19:0; 2 a-26:-20; 3 a-26:-20; S"},
		{"while a<20{a=a+7;}b=-26;", api.Config{Thresholds: true}, "0 a0:26; 1 a0:19; 2 a20:26; 3 a20:26 b-26; "},
		// Steps are only gone by; they bound nothing by themselves.
		{"while 0<1{a=a+1;}", api.Config{Thresholds: true}, "0 aMIN:MAX; 1 aMIN:MAX; 2 -; "},
	})
}

func TestP13Narrow(t *testing.T) {
	late := "while a<10{d=c;c=b;b=a;a=a+1;}"
	checkReports(t, []analyzeExample{
		{late, api.Config{Narrow: 0},
			"0 a0:MAX b0:MAX c0:MAX d0:MAX; 1 a0:9 b0:MAX c0:MAX d0:MAX; 2 a0:9 b0:MAX c0:MAX d0:MAX; 3 a0:9 b0:MAX c0:MAX d0:MAX; 4 a0:9 b0:9 c0:MAX d0:MAX; 5 a10:MAX b0:MAX c0:MAX d0:MAX; "},
		{late, api.Config{Narrow: 1},
			"0 a0:10 b0:9 c0:MAX d0:MAX; 1 a0:9 b0:9 c0:MAX d0:MAX; 2 a0:9 b0:9 c0:MAX d0:MAX; 3 a0:9 b0:9 c0:9 d0:MAX; 4 a0:9 b0:9 c0:9 d0:MAX; 5 a10 b0:9 c0:MAX d0:MAX; "},
		{late, api.Config{Narrow: 2},
			"0 a0:10 b0:9 c0:9 d0:MAX; 1 a0:9 b0:9 c0:9 d0:MAX; 2 a0:9 b0:9 c0:9 d0:9; 3 a0:9 b0:9 c0:9 d0:9; 4 a0:9 b0:9 c0:9 d0:9; 5 a10 b0:9 c0:9 d0:MAX; "},
		{late, api.Config{Narrow: 3},
			"0 a0:10 b0:9 c0:9 d0:9; 1 a0:9 b0:9 c0:9 d0:9; 2 a0:9 b0:9 c0:9 d0:9; 3 a0:9 b0:9 c0:9 d0:9; 4 a0:9 b0:9 c0:9 d0:9; 5 a10 b0:9 c0:9 d0:9; "},
		{"while a>-10{a=a-1;}", api.Config{Narrow: 1}, "0 a-10:0; 1 a-9:0; 2 a-10; "},
		// An end that is neither MIN nor MAX stays, though less would do.
		{"while a!=20{a=a+2;assert a<99;}", api.Config{Thresholds: true, Narrow: 3}, "0 a0:99; 1 a0:99; 2 a2:101; 3 a20; A"},
		// A narrowed state has the one ahead of the loop in it still.
		{"read a;while a<0{a=0;}", api.Config{Narrow: 3}, "0; 1 aMIN:MAX; 2 aMIN:-1; 3 a0:MAX; "},
	})
}

func TestP13Loops(t *testing.T) {
	for _, cfg := range configs() {
		checkReports(t, []analyzeExample{
			{"while a<0{b=1;}", cfg, "0; 1 -; 2; "},
			{"while 0<1{}a=1;", cfg, "0; 1 -; 2 -; "},
			{"while a<1{}", cfg, "0; 1 -; "},
			{"while 1/0<1{a=1;}", cfg, "0; 1 -; 2 -; A"},
			{"read a;while a<5{a=1/0;}", cfg, "0; 1 aMIN:MAX; 2 aMIN:4; 3 a5:MAX; A"},
			{"read a;while a!=a{}", cfg, "0; 1 aMIN:MAX; 2 aMIN:MAX; "},
			{"a=1/0;while a<5{a=a+1;}", cfg, "0; 1 -; 2 -; 3 -; A"},
		})
	}
	// What the outer loop brings changes what the inner one finds.
	checkReports(t, []analyzeExample{
		{"while a<3{b=0;while b<a{b=b+1;}a=a+1;}", api.Config{Delay: 4},
			"0 a0:3 b0:2; 1 a0:2 b0:2; 2 a0:2 b0:2; 3 a1:2 b0:1; 4 a0:2 b0:2; 5 a3 b0:2; "},
		{"while a<3{b=0;while b<a{b=b+1;}a=a+1;}", api.Config{Unroll: 3},
			"0 a0:3 b0:2; 1 a0:2 b0:1; 2 a0:2 b0:2; 3 a1:2 b0:1; 4 a0:2 b0:2; 5 a3 b2; "},
	})
}

func TestP14Sites(t *testing.T) {
	checkReports(t, []analyzeExample{
		{"a=1/0+1/b;", api.Config{}, "0; 1 -; AU"},
		{"a=6/(1/0);", api.Config{}, "0; 1 -; UA"},
		{"a=(1/0)/(1/b);", api.Config{}, "0; 1 -; AUU"},
		{"a=-(1%0)*(1%0);", api.Config{}, "0; 1 -; AU"},
		{"if 1/0<1%0{}", api.Config{}, "0; 1 -; AU"},
		{"read a;b=6/a%a;", api.Config{}, "0; 1 aMIN:MAX; 2 aMIN:MAX b-6:6; AA"},
		{"read a;assert a>0;b=6/a%a;", api.Config{}, "0; 1 aMIN:MAX; 2 a1:MAX; 3 a1:MAX b0:6; ASS"},
		{"read a;assert a<=0;b=6/a;", api.Config{}, "0; 1 aMIN:MAX; 2 aMIN:0; 3 aMIN:0 b-6:0; AA"},
		{"if a>0{b=1/0;assert a<0;}c=1/1;assert a==0;", api.Config{}, "0; 1 -; 2 -; 3; 4 c1; 5 c1; UUSS"},
		{"read a;assert a>3;assert a>3;assert a>2;assert a!=9;assert a<3;assert a>0;", api.Config{},
			"0; 1 aMIN:MAX; 2 a4:MAX; 3 a4:MAX; 4 a4:MAX; 5 a4:MAX; 6 -; 7 -; ASSAAU"},
		// No state is behind the opposite of a condition one side of which has no value.
		{"assert 1/0<1%0;", api.Config{}, "0; 1 -; SAU"},
		{"assert 1<1%0;", api.Config{}, "0; 1 -; SA"},
	})
}

// Each time that a site is come to counts, an alarm for good.
func TestP14AlarmStays(t *testing.T) {
	for _, unroll := range []int{0, 1, 2, 3} {
		cfg := api.Config{Unroll: unroll, Delay: 1, Narrow: 1}
		for _, src := range []string{
			"read b;while a<9{c=6/b;b=1;a=a+1;}",
			"b=1;while a<9{c=6/b;b=0;a=a+1;}",
			"read b;while a<9{assert b>0;b=1;a=a+1;}",
			"b=1;while a<9{assert b>0;b=b-1;a=a+1;}",
		} {
			if got := analyzed(src, cfg); !strings.HasSuffix(got, "; A") {
				t.Errorf("Analyze(%q, %v): %s", src, cfg, got)
			}
		}
	}
	checkReports(t, []analyzeExample{
		{"b=1;while a<9{c=6/b;b=0;a=a+1;}", api.Config{Unroll: 1}, "0; 1 a0:1 b0:1 c0:6; 2 a0:1 b0:1 c0:6; 3 b1 c6; 4 c6; 5 -; A"},
	})
}

// What is come to only in the rounds in which a loop's state is looked for is not told.
func TestP14RoundsAreQuiet(t *testing.T) {
	src := "while 0==0{assert a<100;a=a+1;if a>7{a=0;}}"
	checkReports(t, []analyzeExample{
		{src, api.Config{}, "0 a0:MAX; 1 a0:MAX; 2 a0:99; 3 a1:100; 4 a8:100; 5 -; A"},
		{src, api.Config{Narrow: 1}, "0 a0:7; 1 a0:7; 2 a0:7; 3 a1:8; 4 a8; 5 -; S"},
		// The inner loop is quiet too, its unrolled rounds with it.
		{"while 0==0{while b<1{assert a<100;b=1;}b=0;a=a+1;if a>7{a=0;}}", api.Config{Narrow: 1},
			"0 aMIN:7; 1 aMIN:7 b0:1; 2 aMIN:7; 3 aMIN:7; 4 aMIN:7 b1; 5 aMIN:7; 6 a-MAX:8; 7 a8; 8 -; S"},
		{"while 0==0{while b<1{assert a<100;b=1;}b=0;a=a+1;if a>7{a=0;}}", api.Config{Narrow: 1, Unroll: 1},
			"0 a-MAX:7; 1 a-MAX:7 b0:1; 2 a-MAX:7; 3 a-MAX:7; 4 a-MAX:7 b1; 5 a-MAX:7; 6 a-32766:8; 7 a8; 8 -; S"},
	})
}

// drawSmall makes up a sum of few numbers and variables, so that loops find something to do.
func drawSmall(draw func(int) int) string {
	name := func() string { return string(rune('a' + draw(4))) }
	number := []string{"0", "1", "1", "2", "3", "5", "10", "300", "32767"}[draw(9)]
	switch draw(8) {
	case 0:
		return number
	case 1:
		return "-" + name()
	case 2:
		return name() + []string{"+", "-", "*", "/", "%"}[draw(5)] + name()
	case 3:
		return "(" + name() + "+" + name() + ")" + []string{"/", "%", "*"}[draw(3)] + number
	default:
		return name() + []string{"+", "-", "+", "-", "*", "/", "%"}[draw(7)] + number
	}
}

func drawTest(draw func(int) int) string {
	sign := []string{"<", "<=", "==", "!=", ">=", ">", "<", "!="}[draw(8)]
	left := string(rune('a' + draw(4)))
	switch draw(4) {
	case 0:
		return left + sign + string(rune('a'+draw(4)))
	case 1:
		return drawSmall(draw) + sign + drawSmall(draw)
	case 2:
		return drawSmall(draw) + sign + left
	}
	return left + sign + []string{"0", "1", "3", "-2", "10", "100"}[draw(6)]
}

func drawLoops(draw func(int) int, depth int) string {
	var text strings.Builder
	for range 1 + draw(3) {
		what := draw(9)
		switch {
		case depth == 0 && what > 4 || what < 4:
			text.WriteString(string(rune('a'+draw(4))) + "=" + drawSmall(draw) + ";")
		case what == 4:
			text.WriteString([]string{"read a;", "assert " + drawTest(draw) + ";"}[draw(2)])
		case what == 5:
			text.WriteString("if " + drawTest(draw) + "{" + drawLoops(draw, depth-1) + "}else{" + drawLoops(draw, depth-1) + "}")
		case what == 6:
			text.WriteString("if " + drawTest(draw) + "{" + drawLoops(draw, depth-1) + "}")
		default:
			text.WriteString("while " + drawTest(draw) + "{" + drawLoops(draw, depth-1) + "}")
		}
	}
	return text.String()
}

// drawnLoops are programs that are short enough to be one.
func drawnLoops(seed uint64, count int) []string {
	draw := draws(seed)
	var all []string
	for len(all) < count {
		if src := drawLoops(draw, 3); len(src) <= api.MaxText {
			all = append(all, src)
		}
	}
	return all
}

func drawConfig(draw func(int) int) api.Config {
	return api.Config{Delay: draw(api.MaxDelay + 1), Narrow: draw(api.MaxNarrow + 1), Unroll: draw(api.MaxUnroll + 1), Thresholds: draw(2) == 1}
}

// checkSecond holds Analyze to a second analysis, and counts what it tells of sites.
func checkSecond(t *testing.T, src string, cfg api.Config, known *[3]int) {
	t.Helper()
	got, err := invariants.Analyze(src, cfg)
	want := secondReport(t, src, cfg)
	if err != nil || !reflect.DeepEqual(got, want) {
		t.Fatalf("Analyze(%q, %v):\n%s, %v\nwant\n%s", src, cfg, reported(cfg.Domain, got), err, reported(cfg.Domain, want))
	}
	checkShape(t, src, cfg.Domain, got, len(want.Facts), len(want.Sites))
	for _, site := range got.Sites {
		known[site]++
	}
}

func TestP13DrawnPrograms(t *testing.T) {
	for _, domain := range domains() {
		draw := draws(12)
		known := [3]int{}
		for _, src := range append(drawn(13, 2000), drawnLoops(14, 6000)...) {
			checkSecond(t, src, in(domain, drawConfig(draw)), &known)
		}
		for site, count := range known {
			if count < 500 {
				t.Errorf("domain %d: only %d sites are %d", domain, count, site)
			}
		}
	}
}

// hasNumber tells whether a number is in a value of a domain.
func hasNumber(domain int, v api.Value, n int64) bool {
	switch {
	case domain == api.Intervals:
		return v.A <= n && n <= v.B
	case v.A == 0:
		return n == v.B
	}
	return (n-v.B)%v.A == 0
}

// checkWithin holds a report to a run: the run does nothing that the report does not have.
func checkWithin(t *testing.T, src string, domain int, report api.Report, trace api.Trace) {
	t.Helper()
	for _, visit := range trace.Visits {
		fact := report.Facts[visit.Point]
		if !fact.Reached {
			t.Errorf("%q: a run comes by at %d, which is not reached", src, visit.Point)
		}
		for name, n := range visit.Store {
			if v := fact.Values[name]; !hasNumber(domain, v, int64(n)) {
				t.Errorf("%q: at %d %c is %d, which is not in %s", src, visit.Point, 'a'+name, n, valueText(domain, v))
			}
		}
	}
	if trace.Stop >= 0 && report.Sites[trace.Stop] != api.Alarm {
		t.Errorf("%q: a run stops at site %d, which is %d", src, trace.Stop, report.Sites[trace.Stop])
	}
}

func TestP14RunsAreWithin(t *testing.T) {
	draw := draws(15)
	for _, src := range append(drawn(16, 1000), drawnLoops(17, 3000)...) {
		cfg := drawConfig(draw)
		var traces []api.Trace
		for range 3 {
			trace, err := invariants.Run(src, drawInputs(draw), api.MaxFuel)
			if err != nil {
				t.Fatalf("Run(%q): %v", src, err)
			}
			traces = append(traces, trace)
		}
		for _, domain := range domains() {
			report, err := invariants.Analyze(src, in(domain, cfg))
			if err != nil {
				t.Fatalf("Analyze(%q): %v", src, err)
			}
			for _, trace := range traces {
				checkWithin(t, src, domain, report, trace)
			}
		}
	}
}

// What Print answers is analyzed alike.
func TestP5SameReports(t *testing.T) {
	draw := draws(18)
	held := 0
	for _, src := range append(samples(), drawnLoops(19, 2000)...) {
		text, err := invariants.Print(src)
		if err != nil {
			t.Fatalf("Print(%q): %v", src, err)
		}
		if len(text) > api.MaxText {
			continue
		}
		held++
		for _, domain := range domains() {
			cfg := in(domain, drawConfig(draw))
			if one, other := analyzed(src, cfg), analyzed(text, cfg); one != other {
				t.Errorf("Analyze(%q, %v): %s\nbut written in one form\n%s", src, cfg, one, other)
			}
		}
	}
	if held < 1000 {
		t.Errorf("only %d programs are short enough", held)
	}
}

// nested are loops as deep as they can be, each with something of its own to do.
func nested(head, ahead, behind string) string {
	text := head
	for depth := range api.MaxDepth {
		text += "while a<b{" + strings.ReplaceAll(ahead, "?", string(rune('c'+depth%6)))
	}
	for depth := range api.MaxDepth {
		text += strings.ReplaceAll(behind, "?", string(rune('h'-depth%6))) + "}"
	}
	return text
}

// Gone round anew for each round of the loops around them, the inner ones would take some 10 to the 13th rounds.
func TestP1NestedLoops(t *testing.T) {
	cfg := api.Config{Delay: api.MaxDelay, Narrow: api.MaxNarrow, Unroll: api.MaxUnroll, Thresholds: true}
	for _, src := range []string{
		nested("", "", ""),
		nested("b=9;", "a=a+1;", ""),
		nested("read a;read b;", "", ""),
		nested("read a;read b;", "?=?+1;", ""),
		nested("read a;read b;", "", "?=?+1;"),
		nested("read a;read b;", "?=?+1;", "?=?-1;"),
		nested("read a;read b;", "?=?%9+1;", ""),
		nested("read a;read b;", "", "?=?%9+1;"),
		nested("read a;read b;", "?=a;", "a=b;"),
		nested("read b;", "?=0;", "a=a+1;"),
	} {
		trace, err := invariants.Run(src, []int16{-2, 3}, api.MaxFuel)
		if err != nil {
			t.Fatalf("Run(%q): %v", src, err)
		}
		for _, domain := range domains() {
			report, err := invariants.Analyze(src, in(domain, cfg))
			if err != nil {
				t.Fatalf("Analyze(%q): %v", src, err)
			}
			checkWithin(t, src, domain, report, trace)
		}
	}
}

func TestP2FreshReports(t *testing.T) {
	for _, domain := range domains() {
		src, cfg := "read a;while a<3{b=6/a;a=a+1;}", api.Config{Domain: domain, Unroll: 1}
		first, err := invariants.Analyze(src, cfg)
		if err != nil {
			t.Fatal(err)
		}
		want := reported(domain, first)
		for i := range first.Facts {
			first.Facts[i] = api.Fact{Reached: i%2 == 0, Values: [api.Names]api.Value{{A: 77, B: math.MaxInt64}}}
		}
		for i := range first.Sites {
			first.Sites[i] = api.Unreached
		}
		if got := analyzed(src, cfg); got != want {
			t.Errorf("%s behind a written report, want %s", got, want)
		}
	}
}
