package invariants_test

import (
	"reflect"
	"strings"
	"testing"

	"invariants/api"
	"invariants/invariants"
)

func congruences() api.Config { return api.Config{Domain: api.Congruences} }

func TestP10Examples(t *testing.T) {
	checkReports(t, []analyzeExample{
		{"while a<10{a=a+4;b=b+6;}c=a%4;d=b%4;", congruences(),
			"0 a4,0 b2,0; 1 a4,0 b2,0; 2 a4,0 b2,0; 3 a4,0 b2,0; 4 a4,0 b2,0 c4,0; 5 a4,0 b2,0 c4,0 d2,0; SS"},
		{"read a;b=4*a+1;read c;c=8*c+5;assert b==c;d=b-c;", congruences(),
			"0; 1 a1,0; 2 a1,0 b4,1; 3 a1,0 b4,1 c1,0; 4 a1,0 b4,1 c8,5; 5 a1,0 b8,5 c8,5; 6 a1,0 b8,5 c8,5 d8,0; A"},
		{"a=3;if a<4{b=1;}else{b=2;}", congruences(), "0; 1 a3; 2 a3; 3 -; 4 a3 b1; "},
	})
}

// knownClasses makes a whole, b (4, 1), c (6, 3), d (12, 5), e -7, f (65536, 0) and g (32768, 1).
const knownClasses = "read a;b=4*a+1;if a<0{c=3;}else{c=9;}if a<0{d=5;}else{d=-7;}e=-7;f=256*a;f=f*f;if a<0{g=1;}else{g=-32767;}"

// valueOfH tells, of the program's point that is so far ahead of the end, what h may be there in Congruences.
func valueOfH(t *testing.T, src string, ahead int) string {
	t.Helper()
	report, err := invariants.Analyze(src, congruences())
	if err != nil {
		t.Errorf("Analyze(%q): %v", src, err)
		return ""
	}
	fact := report.Facts[len(report.Facts)-1-ahead]
	if !fact.Reached {
		return "none"
	}
	return valueText(api.Congruences, fact.Values[7])
}

func checkClasses(t *testing.T, all map[string]string) {
	t.Helper()
	for sum, want := range all {
		if got := valueOfH(t, knownClasses+"h="+sum+";", 0); got != want {
			t.Errorf("%s: %s, want %s", sum, got, want)
		}
	}
}

func TestP10Operations(t *testing.T) {
	checkClasses(t, map[string]string{
		"0":           "0",
		"32767":       "32767",
		"a":           "1,0",
		"b":           "4,1",
		"c":           "6,3",
		"d":           "12,5",
		"f":           "65536,0",
		"g":           "32768,1",
		"-a":          "1,0",
		"-b":          "4,3",
		"-c":          "2,1",
		"-d":          "4,3",
		"-e":          "7",
		"-f":          "65536,0",
		"-(f+1)":      "65536,65535",
		"--c":         "2,1",
		"a+1":         "1,0",
		"b+1":         "4,2",
		"1+b":         "4,2",
		"b+b":         "4,2",
		"b+e":         "4,2",
		"b+c":         "2,0",
		"c+d":         "2,0",
		"c+0":         "2,1",
		"f+e":         "65536,65529",
		"f+g":         "32768,1",
		"g+32767":     "32768,0",
		"b-b":         "4,0",
		"b-2":         "4,3",
		"2-b":         "4,1",
		"c-d":         "2,0",
		"c-e":         "2,0",
		"f-1":         "65536,65535",
		"1-g":         "32768,0",
		"b*b":         "4,1",
		"b*2":         "8,2",
		"2*b":         "8,2",
		"b*-2":        "8,6",
		"b*3":         "4,3",
		"b*c":         "2,1",
		"c*b":         "2,1",
		"c*c":         "2,1",
		"c*4":         "8,4",
		"c*12":        "8,4",
		"(b-1)*(b-1)": "16,0",
		"(b+1)*(b+1)": "8,4",
		"a*32767":     "1,0",
		"16384*a*4":   "65536,0",
		"a*0":         "0",
		"0*a":         "0",
		"f*0":         "0",
		"f*e":         "65536,0",
		"f*f":         "65536,0",
		"g*2":         "65536,2",
		"g*g":         "32768,1",
		"g*4":         "65536,4",
	})
}

// Of two numbers alone, the value is what a run works out.
func TestP10NumbersAlone(t *testing.T) {
	checkClasses(t, map[string]string{
		"e+e":             "-14",
		"e*e":             "49",
		"e-1":             "-8",
		"e-32767":         "32762",
		"32767+1":         "-32768",
		"32767*3":         "32765",
		"256*256":         "0",
		"-(-32767-1)":     "-32768",
		"e/2":             "-3",
		"e%2":             "-1",
		"7/e":             "-1",
		"7%-2":            "1",
		"(-32767-1)/-1":   "-32768",
		"(-32767-1)%-1":   "0",
		"0/e":             "0",
		"1/0":             "none",
		"0%0":             "none",
		"e/(e+7)":         "none",
		"1+e%(e-e)":       "none",
		"-(1/0)":          "none",
		"(1/0)*0":         "none",
		"0*(1/0)":         "none",
		"(a-a)*(1%0)":     "none",
		"b+c*(d-e/(e*0))": "none",
	})
}

func TestP10Division(t *testing.T) {
	checkClasses(t, map[string]string{
		"a/2":       "1,0",
		"b/1":       "1,0",
		"(b-1)/4":   "1,0",
		"0/b":       "1,0",
		"e/b":       "1,0",
		"b/b":       "1,0",
		"f/f":       "1,0",
		"b/0":       "none",
		"a/(a*0)":   "none",
		"a%2":       "1,0",
		"(2*a)%2":   "2,0",
		"d%12":      "12,5",
		"d%-12":     "12,5",
		"d%24":      "12,5",
		"d%8":       "4,1",
		"d%9":       "3,2",
		"d%5":       "1,0",
		"d%1":       "1,0",
		"d%c":       "3,2",
		"c%d":       "1,0",
		"c%(d-5)":   "2,1",
		"0%b":       "1,0",
		"0%(b-1)":   "4,0",
		"7%(b-1)":   "4,3",
		"e%b":       "1,0",
		"e%(b-1)":   "4,1",
		"e%(b+1)":   "2,1",
		"e%(c-c)":   "2,1",
		"e%f":       "65536,65529",
		"f%f":       "65536,0",
		"f%3":       "1,0",
		"g%32767":   "1,0",
		"g%16384":   "16384,1",
		"c%0":       "none",
		"f%(a*0)":   "none",
		"1+b%0":     "none",
		"-(d%0)":    "none",
		"b%0*0":     "none",
		"(a/0)%(b)": "none",
	})
}

func TestP10Join(t *testing.T) {
	for _, e := range []struct{ one, other, want string }{
		{"3", "9", "6,3"},
		{"5", "5", "5"},
		{"0", "0", "0"},
		{"-1", "1", "2,1"},
		{"-1", "-4", "3,2"},
		{"0", "-5", "5,0"},
		{"-32767-1", "32767", "65535,32767"},
		{"-32767-1", "0", "32768,0"},
		{"-32767", "1", "32768,1"},
		{"b", "b", "4,1"},
		{"b", "c", "2,1"},
		{"b", "4*a+3", "2,1"},
		{"b", "4*a+2", "1,0"},
		{"b", "5", "4,1"},
		{"b", "7", "2,1"},
		{"b", "-3", "4,1"},
		{"c", "d", "2,1"},
		{"d", "e", "12,5"},
		{"d", "2", "3,2"},
		{"f", "0", "65536,0"},
		{"f", "1", "1,0"},
		{"f-1", "-1", "65536,65535"},
		{"f", "g+32767", "32768,0"},
		{"a", "5", "1,0"},
	} {
		for _, pair := range [][2]string{{e.one, e.other}, {e.other, e.one}} {
			src := knownClasses + "if a<1{h=" + pair[0] + ";}else{h=" + pair[1] + ";}"
			if got := valueOfH(t, src, 0); got != e.want {
				t.Errorf("%s joined with %s: %s, want %s", pair[0], pair[1], got, e.want)
			}
		}
	}
}

func TestP10Meet(t *testing.T) {
	for _, e := range []struct{ one, other, want string }{
		{"a", "a", "1,0"},
		{"a", "5", "5"},
		{"a", "-32767-1", "-32768"},
		{"a", "b", "4,1"},
		{"a", "d", "12,5"},
		{"b", "b", "4,1"},
		{"b", "c", "12,9"},
		{"b", "d", "12,5"},
		{"b", "8*a+5", "8,5"},
		{"b", "8*a+3", "none"},
		{"b", "2*a", "none"},
		{"b", "5", "5"},
		{"b", "e", "-7"},
		{"b", "e+1", "none"},
		{"b", "-3", "-3"},
		{"b", "3", "none"},
		{"c", "d", "none"},
		{"c", "4*a+3", "12,3"},
		{"d", "16*a+1", "48,17"},
		{"d", "e", "-7"},
		{"e", "e", "-7"},
		{"e", "7", "none"},
		// One number of a run that is in both is that number, though the classes have others beyond.
		{"f", "a", "0"},
		{"f", "f", "0"},
		{"f", "4*a", "0"},
		{"f", "b", "none"},
		{"f-1", "a", "-1"},
		{"f-1", "-1", "-1"},
		{"g", "a", "32768,1"},
		{"g", "b", "32768,1"},
		{"g", "f+1", "1"},
		{"g", "d", "-32767"},
		{"g", "2*a", "none"},
	} {
		for _, cond := range []string{"h==" + e.other, e.other + "==h", "(h)==(" + e.other + ")"} {
			src := knownClasses + "h=" + e.one + ";if " + cond + "{a=0;}"
			if got := valueOfH(t, src, 1); got != e.want {
				t.Errorf("%s in %s: %s, want %s", cond, e.one, got, e.want)
			}
		}
	}
}

// Classes whose moduli are great may have nothing in common within MIN to MAX, or just one number, though beyond it they have.
func TestP10MeetWithinMinToMax(t *testing.T) {
	for numbers, want := range map[[4]string]string{
		{"1000", "31000", "2000", "31000"}:   "31000",
		{"1000", "31000", "3000", "32000"}:   "none",
		{"1000", "31000", "1000", "30000"}:   "1000",
		{"-1000", "29000", "-1000", "-6000"}: "30000,29000",
		{"-1000", "29000", "0", "-8000"}:     "none",
		{"-1000", "29000", "0", "1000"}:      "30000,29000",
		{"-1000", "29000", "1", "0"}:         "30000,29000",
		{"0", "181", "0", "180"}:             "32580,0",
		{"0", "182", "0", "181"}:             "0",
		{"0", "256", "0", "255"}:             "0",
		{"5", "262", "5", "260"}:             "5",
		{"-32767", "32767", "0", "1"}:        "65534,32767",
		{"-32767-1", "32767", "0", "1"}:      "65535,32767",
		{"-32767-1", "32767", "1", "3"}:      "32767",
		{"-32767-1", "32767", "0", "2"}:      "-32768",
	} {
		src := "read a;if a<0{h=" + numbers[0] + ";}else{h=" + numbers[1] + ";}if a<0{g=" + numbers[2] + ";}else{g=" + numbers[3] + ";}if h==g{a=0;}"
		if got := valueOfH(t, src, 1); got != want {
			t.Errorf("%v: %s, want %s", numbers, got, want)
		}
	}
}

// classBranches tells what an if makes of a (4, 1), b (6, 3), c 5, and d 9, behind its condition and behind the opposite.
func classBranches(t *testing.T, cond string) string {
	t.Helper()
	src := "read a;a=4*a+1;if a<0{b=3;}else{b=9;}c=5;d=9;if " + cond + "{h=0;}else{h=0;}"
	report, err := invariants.Analyze(src, congruences())
	if err != nil {
		t.Errorf("Analyze(%q): %v", src, err)
		return ""
	}
	var text []string
	for _, point := range []int{8, 9} {
		fact := report.Facts[point]
		if !fact.Reached {
			text = append(text, "none")
			continue
		}
		for name := range 4 {
			text = append(text, string(rune('a'+name))+valueText(api.Congruences, fact.Values[name]))
		}
	}
	return strings.Join(text, " ")
}

func TestP11Congruences(t *testing.T) {
	both := func(a, b string) string { return "a" + a + " b" + b + " c5 d9" }
	as := both("4,1", "6,3")
	for cond, want := range map[string][2]string{
		"a<5":        {as, as},
		"a<=5":       {as, as},
		"a>=5":       {as, as},
		"a>5":        {as, as},
		"5<a":        {as, as},
		"a<-32767-1": {as, as},
		"a>32767":    {as, as},
		"a<b":        {as, as},
		"a<a":        {as, as},
		"a!=a":       {as, as},
		"a==a":       {as, as},
		"a==5":       {both("5", "6,3"), as},
		"5==a":       {both("5", "6,3"), as},
		"((a))==(5)": {both("5", "6,3"), as},
		"a!=5":       {as, both("5", "6,3")},
		"5!=a":       {as, both("5", "6,3")},
		"a==c":       {both("5", "6,3"), as},
		"c!=a":       {as, both("5", "6,3")},
		"b==d":       {both("4,1", "9"), as},
		"d==b":       {both("4,1", "9"), as},
		"a==4":       {"none", as},
		"a!=4":       {as, "none"},
		"4==a":       {"none", as},
		"b==c":       {"none", as},
		"b!=c":       {as, "none"},
		"a==b":       {both("12,9", "12,9"), as},
		"b==a":       {both("12,9", "12,9"), as},
		"a!=b":       {as, both("12,9", "12,9")},
		"a==2*b":     {"none", as},
		"a==2*b+7":   {as, as},
		"a==b+0":     {as, as},
		"a+0==b":     {both("4,1", "12,9"), as},
		"a+0==5":     {as, as},
		"a+0==4":     {"none", as},
		"-a==-5":     {as, as},
		"-a==5":      {"none", as},
		"-a!=5":      {as, "none"},
		"c<d":        {as, "none"},
		"d<c":        {"none", as},
		"c<=d":       {as, "none"},
		"d<=c":       {"none", as},
		"c==d":       {"none", as},
		"c!=d":       {as, "none"},
		"d>=c":       {as, "none"},
		"c>=d":       {"none", as},
		"d>c":        {as, "none"},
		"c>d":        {"none", as},
		"c==5":       {as, "none"},
		"c!=5":       {"none", as},
		"c<=5":       {as, "none"},
		"c<5":        {"none", as},
		"c>=5":       {as, "none"},
		"c>5":        {"none", as},
		"c==c":       {as, "none"},
		"c!=c":       {"none", as},
		"c<c":        {"none", as},
		"-1<0":       {as, "none"},
		"32767+1<0":  {as, "none"},
		"a<1/0":      {"none", "none"},
		"a==1/0":     {"none", "none"},
		"1/0==a":     {"none", "none"},
		"1%0!=a":     {"none", "none"},
		"a!=b%0":     {"none", "none"},
		"a==6/b":     {as, as},
	} {
		if got := classBranches(t, cond); got != want[0]+" "+want[1] {
			t.Errorf("%s:\n%s\nwant\n%s %s", cond, got, want[0], want[1])
		}
	}
}

// A value that is met with nothing stays as it is, of whatever numbers; one that is met is told by its numbers, with itself too.
func TestP11ValuesStay(t *testing.T) {
	zero := "read a;a=256*a;a=a*a;"
	checkReports(t, []analyzeExample{
		{zero + "if a!=0{b=1;}", congruences(), "0; 1 a1,0; 2 a256,0; 3 a65536,0; 4 a65536,0; 5 a65536,0 b1,0; "},
		{zero + "if a<0{b=1;}", congruences(), "0; 1 a1,0; 2 a256,0; 3 a65536,0; 4 a65536,0; 5 a65536,0 b1,0; "},
		{zero + "if a<=a{b=1;}", congruences(), "0; 1 a1,0; 2 a256,0; 3 a65536,0; 4 a65536,0; 5 a65536,0 b1,0; "},
		{zero + "if a==a{b=2;}", congruences(), "0; 1 a1,0; 2 a256,0; 3 a65536,0; 4; 5 a65536,0 b2,0; "},
		{zero + "assert a==0;b=a;", congruences(), "0; 1 a1,0; 2 a256,0; 3 a65536,0; 4; 5; A"},
		{zero + "assert a!=0;b=a;", congruences(), "0; 1 a1,0; 2 a256,0; 3 a65536,0; 4 a65536,0; 5 a65536,0 b65536,0; A"},
		{zero + "assert a!=1;b=a;", congruences(), "0; 1 a1,0; 2 a256,0; 3 a65536,0; 4 a65536,0; 5 a65536,0 b65536,0; S"},
	})
}

func TestP12Congruences(t *testing.T) {
	checkReports(t, []analyzeExample{
		{"", congruences(), "0; "},
		{"a=5;b=a+1;a=0;", congruences(), "0; 1 a5; 2 a5 b6; 3 b6; "},
		{"h=1;read h;g=h;", congruences(), "0; 1 h1; 2 h1,0; 3 g1,0 h1,0; "},
		{"read a;assert a==3;b=a;assert a==4;c=1;", congruences(), "0; 1 a1,0; 2 a3; 3 a3 b3; 4 -; 5 -; AA"},
		{"read a;if a==3{b=a;}else{b=7;}", congruences(), "0; 1 a1,0; 2 a3; 3 a1,0; 4 a1,0 b4,3; "},
		{"read a;if a==3{b=6;}", congruences(), "0; 1 a1,0; 2 a3; 3 a1,0 b6,0; "},
		{"read a;if a<3{b=1/0;}c=1;", congruences(), "0; 1 a1,0; 2 a1,0; 3 a1,0; 4 a1,0 c1; A"},
		{"a=1/0;b=1;", congruences(), "0; 1 -; 2 -; A"},
		{"if a>0{b=1;}else{b=2;}", congruences(), "0; 1 -; 2; 3 b2; "},
	})
}

func TestP13Congruences(t *testing.T) {
	unrolled := func(times int) api.Config { return api.Config{Domain: api.Congruences, Unroll: times} }
	checkReports(t, []analyzeExample{
		{"while a<3{a=a+1;}", unrolled(0), "0 a1,0; 1 a1,0; 2 a1,0; "},
		{"while a<3{a=a+1;}", unrolled(2), "0 a1,0; 1 a1,0; 2 a1,0; "},
		{"while a<3{a=a+1;}", unrolled(3), "0 a1,0; 1 a1,0; 2 a3; "},
		{"while a<8{a=a+4;}", unrolled(0), "0 a4,0; 1 a4,0; 2 a4,0; "},
		{"while a<8{a=a+4;}", unrolled(1), "0 a4,0; 1 a4,0; 2 a4,0; "},
		{"while a<8{a=a+4;}", unrolled(2), "0 a4,0; 1 a4,0; 2 a8; "},
		{"while a<8{a=a+6;}", unrolled(0), "0 a2,0; 1 a2,0; 2 a2,0; "},
		{"while a<8{a=a+6;}", unrolled(1), "0 a2,0; 1 a2,0; 2 a2,0; "},
		{"while a<8{a=a+6;}", unrolled(3), "0 a6,0; 1 a6,0; 2 a12; "},
		{"a=5;while a!=0{a=a-5;}", unrolled(0), "0; 1 a1,0; 2 a1,0; 3; "},
		{"a=6;while a!=1{a=a-2;}b=1;", unrolled(0), "0; 1 a2,0; 2 a2,0; 3 -; 4 -; "},
		{"while a<0{b=1;}", unrolled(0), "0; 1 -; 2; "},
		{"while 0<1{}a=1;", unrolled(3), "0; 1 -; 2 -; "},
		{"while 1/0<1{a=1;}", unrolled(1), "0; 1 -; 2 -; A"},
		{"read a;while a<5{a=1/0;}", unrolled(1), "0; 1 a1,0; 2 a1,0; 3 a1,0; A"},
		// Each round makes the modulus less, till nothing is new.
		{"read e;while e>0{read e;d=c;c=b;b=a;a=a+12;}", unrolled(0),
			"0; 1 a4,0 b4,0 c4,0 d4,0 e1,0; 2 a4,0 b4,0 c4,0 d4,0 e1,0; 3 a4,0 b4,0 c4,0 d4,0 e1,0; 4 a4,0 b4,0 c4,0 d4,0 e1,0; 5 a4,0 b4,0 c4,0 d4,0 e1,0; 6 a4,0 b4,0 c4,0 d4,0 e1,0; 7 a4,0 b4,0 c4,0 d4,0 e1,0; "},
		{"read b;while b>0{read b;if a==8{a=4;}if a==0{a=8;}}", unrolled(0),
			"0; 1 a4,0 b1,0; 2 a4,0 b1,0; 3 a4,0 b1,0; 4 a8 b1,0; 5 a4,0 b1,0; 6 b1,0; 7 a4,0 b1,0; "},
		// A loop within a loop.
		{"while a<9{b=a;while b>0{b=b-6;}a=a+4;}", unrolled(0),
			"0 a4,0 b2,0; 1 a4,0 b2,0; 2 a4,0 b2,0; 3 a4,0 b2,0; 4 a4,0 b2,0; 5 a4,0 b2,0; "},
	})
}

// Widened is j and narrowed is i: so of all policies, only the unrolled rounds are to be seen.
func TestP13CongruencesByPolicy(t *testing.T) {
	draw := draws(20)
	for _, src := range append(samples(), drawnLoops(21, 2000)...) {
		cfg := in(api.Congruences, drawConfig(draw))
		got, err := invariants.Analyze(src, cfg)
		if err != nil {
			t.Fatalf("Analyze(%q): %v", src, err)
		}
		plain := api.Config{Domain: api.Congruences, Unroll: cfg.Unroll}
		if want, _ := invariants.Analyze(src, plain); !reflect.DeepEqual(got, want) {
			t.Errorf("Analyze(%q, %v):\n%s\nbut plainly\n%s", src, cfg, reported(cfg.Domain, got), reported(cfg.Domain, want))
		}
	}
}

// drawnClasses are programs that begin with classes of all kinds.
func drawnClasses(seed uint64, count int) []string {
	draw := draws(seed)
	number := func() string {
		return []string{"0", "1", "2", "3", "4", "5", "6", "8", "9", "12", "15", "100", "256", "1000", "30000", "-1", "-6", "-7", "-32767"}[draw(19)]
	}
	var all []string
	for len(all) < count {
		src := "read d;"
		for _, name := range "abc" {
			if draw(2) == 0 {
				src += "if d<0{" + string(name) + "=" + number() + ";}else{" + string(name) + "=" + number() + ";}"
			} else {
				src += string(name) + "=" + number() + "*d+" + number() + ";"
			}
		}
		if draw(2) == 0 {
			src += "if " + string(rune('a'+draw(3))) + "==" + string(rune('a'+draw(3))) + "{" + drawLoops(draw, 1) + "}"
		}
		if src += drawLoops(draw, 3); len(src) <= api.MaxText {
			all = append(all, src)
		}
	}
	return all
}

func TestP10DrawnPrograms(t *testing.T) {
	draw := draws(22)
	known := [3]int{}
	moduli := map[int64]int{}
	for _, src := range drawnClasses(23, 1500) {
		cfg := in(api.Congruences, drawConfig(draw))
		checkSecond(t, src, cfg, &known)
		report, err := invariants.Analyze(src, cfg)
		if err != nil {
			t.Fatalf("Analyze(%q): %v", src, err)
		}
		for _, fact := range report.Facts {
			for _, v := range fact.Values {
				moduli[v.A]++
			}
		}
		trace, err := invariants.Run(src, drawInputs(draw), api.MaxFuel)
		if err != nil {
			t.Fatalf("Run(%q): %v", src, err)
		}
		checkWithin(t, src, cfg.Domain, report, trace)
	}
	if len(moduli) < 100 {
		t.Errorf("only %d moduli are drawn", len(moduli))
	}
}

func TestP14CongruenceSites(t *testing.T) {
	checkReports(t, []analyzeExample{
		{"read a;b=6/a;", congruences(), "0; 1 a1,0; 2 a1,0 b1,0; A"},
		{"read a;a=2*a+1;b=6/a;c=6%a;", congruences(), "0; 1 a1,0; 2 a2,1; 3 a2,1 b1,0; 4 a2,1 b1,0 c1,0; SS"},
		{"read a;a=2*a;b=6/a;c=6%(a+2);", congruences(), "0; 1 a1,0; 2 a2,0; 3 a2,0 b1,0; 4 a2,0 b1,0 c2,0; AA"},
		{"read a;a=256*a;a=a*a;b=1/a;c=1/(a+1);", congruences(), "0; 1 a1,0; 2 a256,0; 3 a65536,0; 4 a65536,0 b1,0; 5 a65536,0 b1,0 c1,0; AS"},
		{"a=3;b=6/a;c=6/(a-3);d=1;", congruences(), "0; 1 a3; 2 a3 b2; 3 -; 4 -; SA"},
		{"a=1/0+1/b;", congruences(), "0; 1 -; AU"},
		{"read a;assert a>3;assert a>3;", congruences(), "0; 1 a1,0; 2 a1,0; 3 a1,0; AA"},
		{"read a;assert a==3;assert a>2;assert a<3;assert a>0;", congruences(), "0; 1 a1,0; 2 a3; 3 a3; 4 -; 5 -; ASAU"},
		{"read a;a=2*a;assert a!=7;assert a==7;", congruences(), "0; 1 a1,0; 2 a2,0; 3 a2,0; 4 -; SA"},
		{"assert 1<1%0;", congruences(), "0; 1 -; SA"},
	})
}
