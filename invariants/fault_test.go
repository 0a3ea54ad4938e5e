package invariants_test

import (
	"errors"
	"strings"
	"testing"

	"invariants/api"
	"invariants/invariants"
)

func TestP3Long(t *testing.T) {
	exact := strings.Repeat("a=1;", api.MaxText/4)
	if len(exact) != api.MaxText {
		t.Fatalf("%d bytes, want %d", len(exact), api.MaxText)
	}
	check(t, []example{
		{exact, strings.Repeat("a = 1;\n", api.MaxText/4)},
		{exact + " ", long()},
		{exact + ";", long()},
		{exact[:api.MaxText-1], syntaxAt(api.MaxText - 1)},
		{exact[:api.MaxText-1] + " ", syntaxAt(api.MaxText)},
		{strings.Repeat("\n", api.MaxText), ""},
		{strings.Repeat("\n", api.MaxText+1), long()},
		{strings.Repeat("?", api.MaxText), syntaxAt(0)},
		{strings.Repeat("?", api.MaxText+1), long()},
	})
}

func TestP3KindsOfErrors(t *testing.T) {
	_, err := invariants.Print(strings.Repeat(" ", api.MaxText+1))
	if err != api.ErrLong {
		t.Errorf("%v, want ErrLong itself", err)
	}
	for src, want := range map[string]api.Errno{"a=1": api.ErrSyntax, "a=" + strings.Repeat("-", 13): api.ErrDepth} {
		_, err := invariants.Print(src)
		var fault *api.Fault
		if !errors.As(err, &fault) || !errors.Is(err, want) || fault.At != fault.Where() {
			t.Errorf("Print(%q): %v is no *api.Fault of %v", src, err, want)
		}
	}
}

func TestP3EachCall(t *testing.T) {
	for src, want := range map[string]string{
		strings.Repeat(" ", api.MaxText+1):       long(),
		"a=1;b=;":                                syntaxAt(6),
		"read a":                                 syntaxAt(6),
		"a=1;b=" + strings.Repeat("-", 13) + "c": depthAt(18),
	} {
		_, ran := invariants.Run(src, nil, -1)
		_, looked := invariants.Analyze(src, api.Config{Domain: -1})
		if printed(src) != want || told(ran) != want || told(looked) != want {
			t.Errorf("%q: Print %s, Run %s, Analyze %s, want %s", src, printed(src), told(ran), told(looked), want)
		}
	}
}

func TestP3Tokens(t *testing.T) {
	check(t, []example{
		{"a\t=1;", syntaxAt(1)},
		{"a\r\n=1;", syntaxAt(1)},
		{"\n \na\n=\n1\n;\n", "a = 1;\n"},
		{"A=1;", syntaxAt(0)},
		{"a=1;#", syntaxAt(4)},
		{"a=1;\x00", syntaxAt(4)},
		{"a=é;", syntaxAt(2)},
		{"a=1_0;", syntaxAt(3)},
		{"a=1!;", syntaxAt(3)},
		{"a=!=1;", syntaxAt(2)},
		{"assert a! =b;", syntaxAt(8)},
		{"assert a< =b;", syntaxAt(10)},
		{"assert a===b;", syntaxAt(10)},
		{"assert a<=-b;", "assert a <= -b;\n"},
		{"assert a<-b;", "assert a < -b;\n"},
		{"assert a<>b;", syntaxAt(9)},
		{"readx;", syntaxAt(0)},
		{"rea d;", syntaxAt(0)},
		{"reada;", syntaxAt(0)},
		{"while1<a{}", "while 1 < a {\n}\n"},
		{"whilea<1{}", syntaxAt(0)},
		{"a=1b;", syntaxAt(3)},
		{"a1=2;", syntaxAt(1)},
		{"a=1 2;", syntaxAt(4)},
		{"if a<1{}elseif a<2{}", syntaxAt(8)},
		{"if a<1{}else if a<2{}", syntaxAt(13)},
	})
}

func TestP3Names(t *testing.T) {
	for c := byte('a'); c <= 'z'; c++ {
		name := string([]byte{c})
		if c <= 'h' {
			check(t, []example{
				{name + "=" + name + ";", name + " = " + name + ";\n"},
				{"read " + name + ";", "read " + name + ";\n"},
			})
			continue
		}
		check(t, []example{{name + "=1;", syntaxAt(0)}, {"a=" + name + ";", syntaxAt(2)}, {"read " + name + ";", syntaxAt(5)}})
	}
	check(t, []example{
		{"aa=1;", syntaxAt(0)},
		{"a=ab;", syntaxAt(2)},
		{"read read;", syntaxAt(5)},
		{"read=1;", syntaxAt(4)},
		{"a=if;", syntaxAt(2)},
	})
}

func TestP3Numbers(t *testing.T) {
	check(t, []example{
		{"a=0;", "a = 0;\n"},
		{"a=10;", "a = 10;\n"},
		{"a=32767;", "a = 32767;\n"},
		{"a=32768;", syntaxAt(2)},
		{"a=-32767;", "a = -32767;\n"},
		{"a=-32768;", syntaxAt(3)},
		{"a=65536;", syntaxAt(2)},
		{"a=65537;", syntaxAt(2)},
		{"a=99999;", syntaxAt(2)},
		{"a=4294967297;", syntaxAt(2)},
		{"a=18446744073709551617;", syntaxAt(2)},
		{"a=" + strings.Repeat("9", api.MaxText-3) + ";", syntaxAt(2)},
		{"a=00;", syntaxAt(2)},
		{"a=01;", syntaxAt(2)},
		{"a=007;", syntaxAt(2)},
		{"a=032767;", syntaxAt(2)},
		{"a=" + strings.Repeat("0", api.MaxText-3) + ";", syntaxAt(2)},
		{"a=1+01?", syntaxAt(4)},
		{"a=0 1;", syntaxAt(4)},
	})
}

func TestP3EndsTooEarly(t *testing.T) {
	for _, src := range []string{
		"a", "a=", "a=1", "a=1+", "a=-", "a=(", "a=(1", "a=(1)", "read", "read a", "assert", "assert 1", "assert 1<", "assert 1<=", "assert 1==", "assert 1!=",
		"assert 1<2", "if", "if a", "if a<", "if a<1", "if a<1{", "if a<1{a=1;", "if a<1{}else", "if a<1{}else{",
		"while", "while a", "while a<1", "while a<1{", "while a<1{if a<1{}",
	} {
		check(t, []example{{src, syntaxAt(len(src))}, {src + " \n", syntaxAt(len(src) + 2)}})
	}
	check(t, []example{{"if a<1{}", "if a < 1 {\n}\n"}, {"if a<1{} ", "if a < 1 {\n}\n"}})
}

func TestP3WrongTokens(t *testing.T) {
	check(t, []example{
		{";", syntaxAt(0)},
		{"}", syntaxAt(0)},
		{"{}", syntaxAt(0)},
		{"(a)=1;", syntaxAt(0)},
		{"-a=1;", syntaxAt(0)},
		{"1=a;", syntaxAt(0)},
		{"else{}", syntaxAt(0)},
		{"a=1;;", syntaxAt(4)},
		{"a=1;}", syntaxAt(4)},
		{"a==1;", syntaxAt(1)},
		{"a=b=c;", syntaxAt(3)},
		{"a=b<c;", syntaxAt(3)},
		{"a=();", syntaxAt(3)},
		{"a=(1;", syntaxAt(4)},
		{"a=(1+2;", syntaxAt(6)},
		{"a=1);", syntaxAt(3)},
		{"a=(1<2);", syntaxAt(4)},
		{"a=+1;", syntaxAt(2)},
		{"a=1*/2;", syntaxAt(4)},
		{"a=1+;", syntaxAt(4)},
		{"a=2(3);", syntaxAt(3)},
		{"read (a);", syntaxAt(5)},
		{"read a,b;", syntaxAt(6)},
		{"assert a;", syntaxAt(8)},
		{"assert (a<b);", syntaxAt(9)},
		{"assert (a)<b<c;", syntaxAt(12)},
		{"if a<1 b=1;", syntaxAt(7)},
		{"if a<1;", syntaxAt(6)},
		{"if a<1{}else a=1;", syntaxAt(13)},
		{"if a<1{}else{}else{}", syntaxAt(14)},
		{"if a<1{};", syntaxAt(8)},
		{"while a<1{}else{}", syntaxAt(11)},
		{"while a<1{else{}}", syntaxAt(10)},
		{"while a<1(", syntaxAt(9)},
		{"while{}", syntaxAt(5)},
		{"if a<1{b=1}", syntaxAt(10)},
		{"if a<1{{}}", syntaxAt(7)},
	})
}

func TestP3FirstPlace(t *testing.T) {
	deep := strings.Repeat("(", 13)
	check(t, []example{
		{"a=?;b=?;", syntaxAt(2)},
		{"a=1 1?", syntaxAt(4)},
		{"a=;b=" + deep, syntaxAt(2)},
		{"a=" + deep + "?", depthAt(14)},
		{"b=" + deep + "1;a=?;", depthAt(14)},
		{"a=1;b=" + deep, depthAt(18)},
	})
}

// ifs is n blocks that are open, with the text within them, closed again.
func ifs(n int, text string) string {
	return strings.Repeat("if a<1{", n) + text + strings.Repeat("}", n)
}

func brackets(n int) string { return strings.Repeat("(", n) + "b" + strings.Repeat(")", n) }

func minuses(n int) string { return strings.Repeat("-", n) + "b" }

func TestP3DepthWithin(t *testing.T) {
	for _, src := range []string{
		"a=" + brackets(12) + ";",
		"a=" + minuses(12) + ";",
		ifs(12, ""),
		ifs(12, "a=b-c;"),
		ifs(11, "") + ifs(12, "read a;"),
		ifs(11, "if a<1{}else{}"),
		ifs(6, "a="+strings.Repeat("-(", 3)+"b"+strings.Repeat(")", 3)+";"),
		ifs(9, "while (a)<-b{assert -(a)<-(b);}"),
		"a=" + brackets(12) + "-" + brackets(12) + ";",
		"a=" + minuses(12) + "-" + minuses(12) + "*" + minuses(12) + ";",
		"a=-" + brackets(11) + "*" + minuses(12) + ";",
		"a=" + strings.Repeat("(", 12) + "b-c" + strings.Repeat(")", 12) + ";",
		"assert " + brackets(12) + "<" + minuses(12) + ";",
		"a=" + brackets(12) + ";" + ifs(12, ""),
	} {
		if _, err := invariants.Print(src); err != nil {
			t.Errorf("Print(%q): %v", src, err)
		}
	}
}

func TestP3DepthBeyond(t *testing.T) {
	check(t, []example{
		{"a=" + brackets(13) + ";", depthAt(14)},
		{"a=" + minuses(13) + ";", depthAt(14)},
		{"a=" + strings.Repeat("(", 13), depthAt(14)},
		{"a=" + strings.Repeat("-", 13), depthAt(14)},
		{"a=" + strings.Repeat("(", 40), depthAt(14)},
		{ifs(13, ""), depthAt(12*7 + 6)},
		{ifs(12, "while a<1{}"), depthAt(12*7 + 9)},
		{ifs(12, "a=(b);"), depthAt(12*7 + 2)},
		{ifs(12, "a=b- -c;"), depthAt(12*7 + 5)},
		{ifs(12, "assert a<(b);"), depthAt(12*7 + 9)},
		{ifs(11, "if a<1{}else{if a<1{}}"), depthAt(11*7 + 19)},
		{ifs(10, "a=-(-b);"), depthAt(10*7 + 4)},
		{"a=" + strings.Repeat("-(", 6) + "-b", depthAt(14)},
		{"a=" + strings.Repeat("(-", 6) + "(b", depthAt(14)},
		{"a=" + strings.Repeat("(", 12) + "b- -c", depthAt(17)},
		{"a=-(-b*-" + strings.Repeat("(", 10), depthAt(17)},
		{"a=" + brackets(12) + "*" + minuses(13) + ";", depthAt(2 + 25 + 1 + 12)},
	})
}

// A bracket that cannot stand where it stands does not open: that is told as ErrSyntax, however much is open.
func TestP3SyntaxAheadOfDepth(t *testing.T) {
	check(t, []example{
		{"a=" + strings.Repeat("(", 12) + "b(", syntaxAt(15)},
		{"a=" + strings.Repeat("-", 12) + "{", syntaxAt(14)},
		{strings.Repeat("if a<1{", 12) + "{", syntaxAt(12 * 7)},
		{strings.Repeat("if a<1{", 12) + "(", syntaxAt(12 * 7)},
		{strings.Repeat("if a<1{", 12) + "-", syntaxAt(12 * 7)},
		{strings.Repeat("if a<1{", 12) + "if a<1(", syntaxAt(12*7 + 6)},
	})
}

// endings are texts of which one makes a program of each beginning of a program that has few open brackets.
func endings() []string {
	var all []string
	for _, operand := range []string{"", "1", "a", "=1"} {
		for round := range 5 {
			for _, relation := range []string{"", "<1"} {
				for _, close := range []string{"", ";", "{}"} {
					for curly := range 3 {
						all = append(all, " "+operand+strings.Repeat(")", round)+relation+close+strings.Repeat("}", curly))
					}
				}
			}
		}
	}
	return all
}

// A token can stand where it stands just if the text up to it can be ended so that it's a program.
func TestP3PlaceOfEachWrongToken(t *testing.T) {
	tokens := strings.Fields("a 1 read assert if else while = < + * - ( ) { } ; ?")
	ends := endings()
	canEnd := func(src string) bool {
		for _, ending := range ends {
			if _, err := invariants.Print(src + ending); err == nil {
				return true
			}
		}
		return false
	}
	var walk func(head string, steps int)
	walk = func(head string, steps int) {
		for _, token := range tokens {
			src := head + " " + token
			number, place := api.Tell(printError(src))
			refused := number == api.ErrSyntax && place == len(head)+1
			if number != api.OK && !refused && (number != api.ErrSyntax || place != len(src)) {
				t.Errorf("Print(%q): error %d at %d, which is no place of a wrong token or the end", src, number, place)
			}
			if refused == canEnd(src) {
				t.Errorf("Print(%q): %q is refused: %v", src, token, refused)
			}
			if !refused && steps > 1 {
				walk(src, steps-1)
			}
		}
	}
	for _, head := range []string{"", "a = ( 1", "assert - (", "if a < 1 {", "if a < 1 { }", "while a < 1 { if a < 1 { } else"} {
		walk(head, 3)
	}
}

func printError(src string) error {
	_, err := invariants.Print(src)
	return err
}
