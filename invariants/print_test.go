package invariants_test

import (
	"reflect"
	"strings"
	"testing"

	"invariants/api"
	"invariants/invariants"
	"invariants/reader"
)

func TestP4Examples(t *testing.T) {
	check(t, []example{
		{"a=(1+2)*3;a=-(-(2));", lines("a = (1 + 2) * 3;", "a = --2;")},
		{"if a==1{b=2;}else{read e;}", lines("if a == 1 {", "  b = 2;", "} else {", "  read e;", "}")},
		{"assert (a<b);", syntaxAt(9)},
		{"a=32768;", syntaxAt(2)},
		{"a=1", syntaxAt(3)},
		{"a=" + strings.Repeat("(", 13), depthAt(14)},
	})
}

func TestP4Statements(t *testing.T) {
	check(t, []example{
		{"", ""},
		{" \n ", ""},
		{"a=0;", lines("a = 0;")},
		{"read  h ;read a;", lines("read h;", "read a;")},
		{"assert a<b;assert a<=b;assert a==b;assert a!=b;assert a>=b;assert a>b;",
			lines("assert a < b;", "assert a <= b;", "assert a == b;", "assert a != b;", "assert a >= b;", "assert a > b;")},
		{"if a<1{}", lines("if a < 1 {", "}")},
		{"if a<1{}else{}", lines("if a < 1 {", "} else {", "}")},
		{"if a<1{}else{b=1;}", lines("if a < 1 {", "} else {", "  b = 1;", "}")},
		{"while a<1{}", lines("while a < 1 {", "}")},
		{"while a<1{a=1;read b;}c=2;", lines("while a < 1 {", "  a = 1;", "  read b;", "}", "c = 2;")},
		{"if a<1{if b<2{c=3;}else{d=4;}}", lines("if a < 1 {", "  if b < 2 {", "    c = 3;", "  } else {", "    d = 4;", "  }", "}")},
		{"if a<1{if b<2{c=3;}}else{d=4;}", lines("if a < 1 {", "  if b < 2 {", "    c = 3;", "  }", "} else {", "  d = 4;", "}")},
		{"while a<1{while b<2{assert c<3;}}", lines("while a < 1 {", "  while b < 2 {", "    assert c < 3;", "  }", "}")},
	})
}

func TestP4DeepestBlock(t *testing.T) {
	var want []string
	for depth := range api.MaxDepth {
		want = append(want, strings.Repeat("  ", depth)+"if a < 1 {")
	}
	want = append(want, strings.Repeat("  ", api.MaxDepth)+"read a;")
	for depth := range api.MaxDepth {
		want = append(want, strings.Repeat("  ", api.MaxDepth-1-depth)+"}")
	}
	check(t, []example{{ifs(api.MaxDepth, "read a;"), lines(want...)}})
}

func TestP4Brackets(t *testing.T) {
	for src, want := range map[string]string{
		"((a))":             "a",
		"(7)":               "7",
		"1+2*3-4/5%6":       "1 + 2 * 3 - 4 / 5 % 6",
		"(a+b)+c":           "a + b + c",
		"a+(b+c)":           "a + (b + c)",
		"a-(b+c)":           "a - (b + c)",
		"(a-b)-c":           "a - b - c",
		"a+(b*c)":           "a + b * c",
		"(a/b)-c":           "a / b - c",
		"(a-b)%c":           "(a - b) % c",
		"a*(b-c)":           "a * (b - c)",
		"(a*b)*c":           "a * b * c",
		"a*(b*c)":           "a * (b * c)",
		"a/(b%c)":           "a / (b % c)",
		"(a/b)%c":           "a / b % c",
		"-a":                "-a",
		"-(a)":              "-a",
		"- - a":             "--a",
		"-(-(a))":           "--a",
		"-(a+b)":            "-(a + b)",
		"-(a%b)":            "-(a % b)",
		"(-a)*b":            "-a * b",
		"-(a*b)":            "-(a * b)",
		"a*(-b)":            "a * -b",
		"a-(-b)":            "a - -b",
		"a- - -b":           "a - --b",
		"a+(-(b+c))":        "a + -(b + c)",
		"(-(a-b))/(-(-c))":  "-(a - b) / --c",
		"((a+b)*(c-d))":     "(a + b) * (c - d)",
		"((a+b)*c)+((d)/e)": "(a + b) * c + d / e",
	} {
		check(t, []example{
			{"h=" + src + ";", "h = " + want + ";\n"},
			{"assert " + src + "<" + src + ";", "assert " + want + " < " + want + ";\n"},
			{"while(" + src + ")!=(0){}", "while " + want + " != 0 {\n}\n"},
		})
	}
}

// sums are all sums of that many signs, with round brackets around each side of each.
func sums(signs int) []string {
	if signs == 0 {
		return []string{"a"}
	}
	var all []string
	for _, inner := range sums(signs - 1) {
		all = append(all, "-("+inner+")")
	}
	for ahead := range signs {
		for _, left := range sums(ahead) {
			for _, right := range sums(signs - 1 - ahead) {
				for _, sign := range []string{"+", "-", "*", "/", "%"} {
					all = append(all, "("+left+")"+sign+"("+right+")")
				}
			}
		}
	}
	return all
}

// withoutPair leaves out a bracket and its partner.
func withoutPair(text string, opening int) string {
	open := 0
	for at := opening; at < len(text); at++ {
		switch text[at] {
		case '(':
			open++
		case ')':
			open--
		}
		if open == 0 {
			return text[:opening] + text[opening+1:at] + text[at+1:]
		}
	}
	return text
}

// None too few: two sums are never written alike. None too many: without any pair the text is another program's.
func TestP4BracketsJustWhereNeeded(t *testing.T) {
	from := map[string]string{}
	for signs := range 4 {
		for _, sum := range sums(signs) {
			text, err := invariants.Print("a=" + sum + ";")
			if err != nil {
				t.Fatalf("%q: %v", sum, err)
			}
			if other, ok := from[text]; ok {
				t.Errorf("%q and %q are both written %q", other, sum, text)
			}
			from[text] = sum
			for at := range len(text) {
				if text[at] == '(' && printed(withoutPair(text, at)) == text {
					t.Errorf("%q is written %q, with brackets at %d that change nothing", sum, text, at)
				}
			}
		}
	}
}

// checkStays holds the written program to P5: it is read as the same tree, and written the same.
func checkStays(t *testing.T, src string) {
	t.Helper()
	text, err := invariants.Print(src)
	if err != nil {
		t.Errorf("Print(%q): %v", src, err)
		return
	}
	if len(text) > api.MaxText {
		return
	}
	if again := printed(text); again != text {
		t.Errorf("Print(%q) is\n%s\nwhich is written\n%s", src, text, again)
	}
	one, _ := reader.Program(src)
	other, _ := reader.Program(text)
	if !reflect.DeepEqual(one, other) {
		t.Errorf("Print(%q) is\n%s\nwhich is another program", src, text)
	}
}

func TestP5WrittenAgain(t *testing.T) {
	for _, src := range samples() {
		checkStays(t, src)
	}
	for signs := range 4 {
		for _, sum := range sums(signs) {
			checkStays(t, "while "+sum+"<"+sum+"{}")
		}
	}
}

func TestP5MayBeLonger(t *testing.T) {
	src := ifs(12, strings.Repeat("a=1;", 60))
	text, err := invariants.Print(src)
	if err != nil || len(text) <= api.MaxText {
		t.Fatalf("%d bytes, %v; want more than %d", len(text), err, api.MaxText)
	}
	if want := strings.Repeat(strings.Repeat("  ", 12)+"a = 1;\n", 60); !strings.Contains(text, want) {
		t.Errorf("%q is cut short", text)
	}
	check(t, []example{{text, long()}})
}

// drawSum makes up a sum, with brackets and blanks here and there.
func drawSum(draw func(int) int, depth int) string {
	blank := strings.Repeat(" ", draw(2))
	if depth == 0 {
		return blank + []string{"a", "h", "0", "19", "32767"}[draw(5)]
	}
	switch inner := drawSum(draw, depth-1); draw(4) {
	case 0:
		return blank + "(" + inner + blank + ")"
	case 1:
		return "-" + blank + "(" + inner + ")"
	case 2:
		return "(" + inner + ")" + []string{"*", "/", "%"}[draw(3)] + drawSum(draw, 0)
	default:
		return inner + []string{"+", "-"}[draw(2)] + "(" + drawSum(draw, depth-1) + ")"
	}
}

func drawCond(draw func(int) int) string {
	signs := []string{"<", "<=", "==", "!=", ">=", ">"}
	return drawSum(draw, draw(2)) + signs[draw(len(signs))] + "\n" + drawSum(draw, draw(2))
}

func drawBlock(draw func(int) int, depth int) string {
	text := ""
	for range draw(3) {
		switch what := draw(6); {
		case what < 2 || depth == 0 && what > 3:
			text += "b =" + drawSum(draw, draw(3)) + ";"
		case what == 2:
			text += "read\nc; "
		case what == 3:
			text += "assert " + drawCond(draw) + ";"
		case what == 4:
			text += "while " + drawCond(draw) + "{" + drawBlock(draw, depth-1) + "}"
		default:
			text += "if " + drawCond(draw) + "{" + drawBlock(draw, depth-1) + "}"
			if draw(2) == 0 {
				text += "else{" + drawBlock(draw, depth-1) + "}"
			}
		}
	}
	return text
}

func TestP5DrawnPrograms(t *testing.T) {
	draw := draws(5)
	read := 0
	for range 5000 {
		if src := drawBlock(draw, 3); len(src) <= api.MaxText {
			checkStays(t, src)
			read++
		}
	}
	if read < 1000 {
		t.Errorf("only %d programs are short enough", read)
	}
}
