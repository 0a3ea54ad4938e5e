package invariants_test

import (
	"fmt"
	"math"
	"strings"
	"testing"

	"invariants/api"
	"invariants/invariants"
)

// analyzed tells what Analyze answers in one text: at each point the variables that may hold something beside 0, or - if it's not reached; and each site's letter; or the error.
func analyzed(src string, cfg api.Config) string {
	report, err := invariants.Analyze(src, cfg)
	if err != nil {
		return told(err)
	}
	return reported(cfg.Domain, report)
}

// valueText writes a number alone as it is; else in Intervals A:B, in Congruences A,B.
func valueText(domain int, v api.Value) string {
	switch {
	case domain == api.Congruences && v.A != 0:
		return fmt.Sprintf("%d,%d", v.A, v.B)
	case domain == api.Intervals && v.A != v.B:
		return fmt.Sprintf("%d:%d", v.A, v.B)
	}
	return fmt.Sprint(v.B)
}

func reported(domain int, report api.Report) string {
	var text strings.Builder
	for point, fact := range report.Facts {
		fmt.Fprint(&text, point)
		if !fact.Reached {
			text.WriteString(" -")
		}
		for name, v := range fact.Values {
			if v != (api.Value{}) {
				fmt.Fprintf(&text, " %c%s", 'a'+name, valueText(domain, v))
			}
		}
		text.WriteString("; ")
	}
	for _, site := range report.Sites {
		text.WriteByte("USA"[site])
	}
	return strings.NewReplacer("-32768", "MIN", "32767", "MAX").Replace(text.String())
}

func configError() string { return fmt.Sprintf("error %d at 0", api.ErrConfig) }

type analyzeExample struct {
	src  string
	cfg  api.Config
	want string
}

func checkReports(t *testing.T, examples []analyzeExample) {
	t.Helper()
	for _, e := range examples {
		if got := analyzed(e.src, e.cfg); got != e.want {
			t.Errorf("Analyze(%q, %v):\n%s\nwant\n%s", e.src, e.cfg, got, e.want)
		}
	}
}

func domains() []int { return []int{api.Intervals, api.Congruences} }

// in is a configuration with another domain.
func in(domain int, cfg api.Config) api.Config {
	cfg.Domain = domain
	return cfg
}

// configs are some of each kind.
func configs() []api.Config {
	return []api.Config{
		{},
		{Narrow: 1},
		{Delay: 2, Thresholds: true},
		{Unroll: 1, Narrow: 2},
		{Unroll: 2, Delay: 1, Narrow: 1, Thresholds: true},
		{Delay: api.MaxDelay, Narrow: api.MaxNarrow, Unroll: api.MaxUnroll, Thresholds: true},
	}
}

func TestP8Configurations(t *testing.T) {
	for _, cfg := range []api.Config{
		{Domain: -1}, {Domain: 2}, {Domain: math.MinInt}, {Domain: math.MaxInt}, {Domain: 1 << 32}, {Domain: -1, Thresholds: true},
		{Delay: -1}, {Delay: api.MaxDelay + 1}, {Delay: math.MinInt}, {Delay: math.MaxInt},
		{Narrow: -1}, {Narrow: api.MaxNarrow + 1}, {Narrow: math.MinInt}, {Narrow: math.MaxInt},
		{Unroll: -1}, {Unroll: api.MaxUnroll + 1}, {Unroll: math.MinInt}, {Unroll: math.MaxInt},
		{Domain: api.Congruences, Delay: -1}, {Domain: api.Congruences, Narrow: 4}, {Domain: api.Congruences, Unroll: 4},
		{Delay: api.MaxDelay, Narrow: api.MaxNarrow, Unroll: api.MaxUnroll + 1, Thresholds: true},
		{Delay: api.MaxDelay + 1, Narrow: api.MaxNarrow + 1, Unroll: api.MaxUnroll + 1},
	} {
		for _, src := range samples() {
			report, err := invariants.Analyze(src, cfg)
			if err != api.ErrConfig || report.Facts != nil || report.Sites != nil {
				t.Errorf("Analyze(%q, %v): %v, %v", src, cfg, report, err)
			}
		}
		checkReports(t, []analyzeExample{
			{"a=", cfg, syntaxAt(2)},
			{"a=" + strings.Repeat("(", 13), cfg, depthAt(14)},
			{strings.Repeat(" ", api.MaxText+1), cfg, long()},
			{strings.Repeat(" ", api.MaxText), cfg, configError()},
		})
	}
	for _, domain := range domains() {
		for _, bound := range []int{0, 1} {
			cfg := api.Config{Domain: domain, Delay: bound * api.MaxDelay, Narrow: bound * api.MaxNarrow, Unroll: bound * api.MaxUnroll, Thresholds: bound == 1}
			checkReports(t, []analyzeExample{{"a=1;", cfg, "0; 1 a1; "}, {"a=", cfg, syntaxAt(2)}, {strings.Repeat(" ", api.MaxText+1), cfg, long()}})
		}
	}
}

// isValue tells whether a value is one of a domain.
func isValue(domain int, v api.Value) bool {
	switch {
	case domain == api.Intervals:
		return math.MinInt16 <= v.A && v.A <= v.B && v.B <= math.MaxInt16
	case v.A == 0:
		return math.MinInt16 <= v.B && v.B <= math.MaxInt16
	}
	return 1 <= v.A && v.A <= 65536 && 0 <= v.B && v.B < v.A
}

// checkShape holds a report to what all reports of a domain have.
func checkShape(t *testing.T, src string, domain int, report api.Report, points, sites int) {
	t.Helper()
	if len(report.Facts) != points || len(report.Sites) != sites {
		t.Errorf("%q: %d facts and %d sites, want %d and %d", src, len(report.Facts), len(report.Sites), points, sites)
	}
	for point, fact := range report.Facts {
		if !fact.Reached && fact != (api.Fact{}) {
			t.Errorf("%q: point %d is not reached, with %v", src, point, fact)
		}
		for _, v := range fact.Values {
			if fact.Reached && !isValue(domain, v) {
				t.Errorf("%q: point %d has %v", src, point, v)
			}
		}
	}
	for site, known := range report.Sites {
		if known != api.Unreached && known != api.Safe && known != api.Alarm {
			t.Errorf("%q: site %d is %d", src, site, known)
		}
	}
}

func TestP8FactsAndSites(t *testing.T) {
	for src, count := range map[string][2]int{
		"":                                      {1, 0},
		" \n":                                   {1, 0},
		"a=1;":                                  {2, 0},
		"read a;assert a>0;b=6/a;":              {4, 2},
		"if a<0{b=1/0;}else{b=1%0;}":            {4, 2},
		"while a<3{assert 1/a<2;while b<1{}}":   {4, 2},
		"b=1/0;c=1;assert a/b%c<1;":             {4, 4},
		strings.Repeat("a=a;", 100):             {101, 0},
		"a=1" + strings.Repeat("/1", 198) + ";": {2, 198},
	} {
		for _, cfg := range configs() {
			for _, domain := range domains() {
				report, err := invariants.Analyze(src, in(domain, cfg))
				if err != nil {
					t.Fatalf("Analyze(%q, %v): %v", src, in(domain, cfg), err)
				}
				checkShape(t, src, domain, report, count[0], count[1])
			}
		}
	}
}

func TestP8Examples(t *testing.T) {
	checkReports(t, []analyzeExample{
		{"read a;assert a>=-3;assert a<=10;b=a*a;c=7/a;", api.Config{},
			"0; 1 aMIN:MAX; 2 a-3:MAX; 3 a-3:10; 4 a-3:10 b-30:100; 5 a-3:10 b-30:100 c-7:7; AAA"},
		{"a=0;while a<10{a=a+1;}b=a;", api.Config{}, "0; 1 a0:MAX; 2 a0:9; 3 a10:MAX; 4 a10:MAX b10:MAX; "},
		{"a=0;while a<10{a=a+1;}b=a;", api.Config{Narrow: 1}, "0; 1 a0:10; 2 a0:9; 3 a10; 4 a10 b10; "},
		{"while a!=20{a=a+2;assert a<99;}", api.Config{Thresholds: true, Narrow: 2, Unroll: 1}, "0 a0:99; 1 a0:99; 2 a2:101; 3 a20; A"},
		{"a=0;b=5/a;c=1;", api.Config{}, "0; 1; 2 -; 3 -; A"},
	})
}

// value is what Analyze tells of h at the end, with a from 2 to 8, b from -3 to 5, c whole, and d from MIN to -1.
func value(t *testing.T, sum string) string {
	t.Helper()
	src := "read a;assert a>=2;assert a<=8;read b;assert b>=-3;assert b<=5;read c;read d;assert d<0;h=" + sum + ";"
	report, err := invariants.Analyze(src, api.Config{})
	if err != nil {
		t.Errorf("Analyze(%q): %v", src, err)
		return ""
	}
	end := report.Facts[len(report.Facts)-1]
	if !end.Reached {
		return "none"
	}
	return strings.NewReplacer("-32768", "MIN", "32767", "MAX").Replace(fmt.Sprintf("%d:%d", end.Values[7].A, end.Values[7].B))
}

func TestP9Operations(t *testing.T) {
	for sum, want := range map[string]string{
		"0":       "0:0",
		"32767":   "MAX:MAX",
		"a":       "2:8",
		"-a":      "-8:-2",
		"-b":      "-5:3",
		"-c":      "MIN:MAX",
		"-d":      "MIN:MAX",
		"--b":     "-3:5",
		"-(d+1)":  "0:MAX",
		"a+b":     "-1:13",
		"a-b":     "-3:11",
		"b-a":     "-11:3",
		"a-a":     "-6:6",
		"c+0":     "MIN:MAX",
		"c+1":     "MIN:MAX",
		"d+32767": "-1:32766",
		"d+1":     "-MAX:0",
		"d-1":     "MIN:MAX",
		"a*b":     "-24:40",
		"b*a":     "-24:40",
		"b*b":     "-15:25",
		"-a*b":    "-40:24",
		"c*0":     "0:0",
		"c*1":     "MIN:MAX",
		"c*-1":    "MIN:MAX",
		"d*-1":    "MIN:MAX",
		"a*4095":  "8190:32760",
		"a*4096":  "MIN:MAX",
		"a*-4096": "MIN:-8192",
		"a*-4097": "MIN:MAX",
	} {
		if got := value(t, sum); got != want {
			t.Errorf("%s: %s, want %s", sum, got, want)
		}
	}
}

func TestP9Division(t *testing.T) {
	for sum, want := range map[string]string{
		"a/2":      "1:4",
		"a/b":      "-8:8",
		"b/a":      "-1:2",
		"b/b":      "-5:5",
		"-7/2":     "-3:-3",
		"7/-2":     "-3:-3",
		"a/c":      "-8:8",
		"c/2":      "-16384:16383",
		"c/-2":     "-16383:16384",
		"c/-1":     "MIN:MAX",
		"d/-1":     "MIN:MAX",
		"(d+1)/-1": "0:MAX",
		"d/d":      "MIN:MAX",
		"d/(d-d)":  "MIN:MAX",
		"a/0":      "none",
		"0/0":      "none",
		"c/(b*0)":  "none",
		"a/(a-2)":  "0:8",
		"a/(a-8)":  "-8:0",
		"a%5":      "0:4",
		"a%-5":     "0:4",
		"a%100":    "0:8",
		"a%b":      "0:4",
		"b%a":      "-3:5",
		"b%2":      "-1:1",
		"b%-2":     "-1:1",
		"-a%5":     "-4:0",
		"-a%100":   "-8:0",
		"7%3":      "0:2",
		"-7%3":     "-2:0",
		"0%3":      "0:0",
		"a%1":      "0:0",
		"a%(a-a)":  "0:5",
		"c%c":      "-MAX:MAX",
		"c%d":      "-MAX:MAX",
		"d%7":      "-6:0",
		"d%d":      "-MAX:0",
		"a%d":      "0:8",
		"a%0":      "none",
		"0%0":      "none",
		"-(a%0)":   "none",
		"1+a/0":    "none",
		"a/0*0":    "none",
	} {
		if got := value(t, sum); got != want {
			t.Errorf("%s: %s, want %s", sum, got, want)
		}
	}
}

// branches tells what an if makes of a from 2 to 8, b from 5 to 9, c 5, and d 9, behind its condition and behind the opposite.
func branches(t *testing.T, cond string) string {
	t.Helper()
	src := "read a;assert a>=2;assert a<=8;read b;assert b>=5;assert b<=9;c=5;d=9;if " + cond + "{h=0;}else{h=0;}"
	report, err := invariants.Analyze(src, api.Config{})
	if err != nil {
		t.Errorf("Analyze(%q): %v", src, err)
		return ""
	}
	text := ""
	for _, point := range []int{9, 10} {
		fact := report.Facts[point]
		if !fact.Reached {
			text += "none "
			continue
		}
		for name := range 4 {
			text += fmt.Sprintf("%c%d:%d ", 'a'+name, fact.Values[name].A, fact.Values[name].B)
		}
	}
	return strings.TrimSpace(text)
}

func TestP11Conditions(t *testing.T) {
	// What is left of a and b; those that the condition does not name, and c and d, stay.
	both := func(a, b string) string { return "a" + a + " b" + b + " c5:5 d9:9" }
	as := both("2:8", "5:9")
	for cond, want := range map[string][2]string{
		"a<5":         {both("2:4", "5:9"), both("5:8", "5:9")},
		"a<=5":        {both("2:5", "5:9"), both("6:8", "5:9")},
		"a==5":        {both("5:5", "5:9"), as},
		"a!=5":        {as, both("5:5", "5:9")},
		"a>=5":        {both("5:8", "5:9"), both("2:4", "5:9")},
		"a>5":         {both("6:8", "5:9"), both("2:5", "5:9")},
		"5<a":         {both("6:8", "5:9"), both("2:5", "5:9")},
		"5<=a":        {both("5:8", "5:9"), both("2:4", "5:9")},
		"5==a":        {both("5:5", "5:9"), as},
		"5!=a":        {as, both("5:5", "5:9")},
		"5>=a":        {both("2:5", "5:9"), both("6:8", "5:9")},
		"5>a":         {both("2:4", "5:9"), both("5:8", "5:9")},
		"((a))<(5)":   {both("2:4", "5:9"), both("5:8", "5:9")},
		"a!=2":        {both("3:8", "5:9"), both("2:2", "5:9")},
		"a!=8":        {both("2:7", "5:9"), both("8:8", "5:9")},
		"8==a":        {both("8:8", "5:9"), both("2:7", "5:9")},
		"a!=9":        {as, "none"},
		"a<b":         {as, both("5:8", "5:8")},
		"b<a":         {both("6:8", "5:7"), as},
		"a>=b":        {both("5:8", "5:8"), as},
		"b<=a":        {both("5:8", "5:8"), as},
		"a>b":         {both("6:8", "5:7"), as},
		"a==b":        {both("5:8", "5:8"), as},
		"a!=b":        {as, both("5:8", "5:8")},
		"a<2":         {"none", as},
		"a<=2":        {both("2:2", "5:9"), both("3:8", "5:9")},
		"a<=1":        {"none", as},
		"a>8":         {"none", as},
		"a>=8":        {both("8:8", "5:9"), both("2:7", "5:9")},
		"a>=9":        {"none", as},
		"a<9":         {as, "none"},
		"9>a":         {as, "none"},
		"1>=a":        {"none", as},
		"2>a":         {"none", as},
		"8<a":         {"none", as},
		"a==9":        {"none", as},
		"1==a":        {"none", as},
		"b>=c":        {as, "none"},
		"b>c":         {both("2:8", "6:9"), both("2:8", "5:5")},
		"c==b":        {both("2:8", "5:5"), both("2:8", "6:9")},
		"b!=d":        {both("2:8", "5:8"), both("2:8", "9:9")},
		"c==d":        {"none", as},
		"c!=d":        {as, "none"},
		"c!=5":        {"none", as},
		"c==5":        {as, "none"},
		"c<c":         {"none", as},
		"c<=c":        {as, "none"},
		"a<a":         {both("3:7", "5:9"), as},
		"a<=a":        {as, both("3:7", "5:9")},
		"a==a":        {as, as},
		"a!=a":        {as, as},
		"a>a":         {both("3:7", "5:9"), as},
		"a+0<5":       {as, as},
		"a*1==5":      {as, as},
		"-a<-5":       {as, as},
		"a+6<b":       {both("2:8", "9:9"), as},
		"b>a+6":       {both("2:8", "9:9"), as},
		"a+7<b":       {"none", as},
		"5<9":         {as, "none"},
		"9<5":         {"none", as},
		"5!=5":        {"none", as},
		"a<1/0":       {"none", "none"},
		"1/0<a":       {"none", "none"},
		"1%(c-5)==1":  {"none", "none"},
		"a<10/(a-4)":  {as, both("2:8", "5:9")},
		"32767<a":     {"none", as},
		"a<-32767-1":  {"none", as},
		"-32767-1>=a": {"none", as},
	} {
		if got := branches(t, cond); got != want[0]+" "+want[1] {
			t.Errorf("%s:\n%s\nwant\n%s %s", cond, got, want[0], want[1])
		}
	}
}

// Of one name on both sides, one bound is met behind the other; together they may leave nothing.
func TestP11SameName(t *testing.T) {
	checkReports(t, []analyzeExample{
		{"read a;assert a>2;assert a<5;if a<a{b=1;}", api.Config{}, "0; 1 aMIN:MAX; 2 a3:MAX; 3 a3:4; 4 -; 5 a3:4; AA"},
		{"read a;assert a>2;assert a<6;if a<a{b=1;}", api.Config{}, "0; 1 aMIN:MAX; 2 a3:MAX; 3 a3:5; 4 a4; 5 a3:5 b0:1; AA"},
		{"read a;if a>a{b=1;}if a<a{c=1;}", api.Config{}, "0; 1 aMIN:MAX; 2 a-MAX:32766; 3 aMIN:MAX b0:1; 4 a-MAX:32766 b0:1; 5 aMIN:MAX b0:1 c0:1; "},
		{"a=7;if a!=a{b=1;}if a<a{c=1;}if a>=a{d=1;}", api.Config{}, "0; 1 a7; 2 -; 3 a7; 4 -; 5 a7; 6 a7; 7 a7 d1; "},
	})
}

func TestP12Statements(t *testing.T) {
	checkReports(t, []analyzeExample{
		{"", api.Config{}, "0; "},
		{"a=5;b=a+1;a=0;", api.Config{}, "0; 1 a5; 2 a5 b6; 3 b6; "},
		{"a=5;a=a*a;a=-a;", api.Config{}, "0; 1 a5; 2 a25; 3 a-25; "},
		{"h=1;read h;g=h;", api.Config{}, "0; 1 h1; 2 hMIN:MAX; 3 gMIN:MAX hMIN:MAX; "},
		{"read a;assert a>3;assert 9>=a;", api.Config{}, "0; 1 aMIN:MAX; 2 a4:MAX; 3 a4:9; AA"},
		{"assert a==0;b=1;assert a>0;c=1;", api.Config{}, "0; 1; 2 b1; 3 -; 4 -; SA"},
		{"read a;if a<5{b=1;}else{b=4;c=9;}", api.Config{}, "0; 1 aMIN:MAX; 2 aMIN:4; 3 a5:MAX; 4 a5:MAX b4; 5 aMIN:MAX b1:4 c0:9; "},
		{"read a;if a<5{b=1;}", api.Config{}, "0; 1 aMIN:MAX; 2 aMIN:4; 3 aMIN:MAX b0:1; "},
		{"read a;if a<5{}else{}b=1;", api.Config{}, "0; 1 aMIN:MAX; 2 aMIN:MAX; 3 aMIN:MAX b1; "},
		{"read a;if a<5{}else{b=1/0;}c=1;", api.Config{}, "0; 1 aMIN:MAX; 2 a5:MAX; 3 aMIN:4; 4 aMIN:4 c1; A"},
		{"read a;if a<5{b=1/0;}c=1;", api.Config{}, "0; 1 aMIN:MAX; 2 aMIN:4; 3 a5:MAX; 4 a5:MAX c1; A"},
		{"if a<5{b=1/0;}else{c=1;}d=1;", api.Config{}, "0; 1; 2 -; 3 -; 4 -; A"},
		{"if a<0{b=1;}else{b=2;}if a>=0{c=3;}else{c=4;}", api.Config{}, "0; 1 -; 2; 3 b2; 4 b2; 5 -; 6 b2 c3; "},
		{"read a;if a>3{if a<9{b=a;}}", api.Config{}, "0; 1 aMIN:MAX; 2 a4:MAX; 3 a4:8; 4 aMIN:MAX b0:8; "},
		{"if 1/0<1{a=1;}else{a=2;}b=1;", api.Config{}, "0; 1 -; 2 -; 3 -; 4 -; A"},
		{"a=1/0;a=1/0;assert a>0;if a<1{}while a<1{}", api.Config{}, "0; 1 -; 2 -; 3 -; 4 -; 5 -; AUU"},
	})
}
