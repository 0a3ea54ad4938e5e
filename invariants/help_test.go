package invariants_test

import (
	"fmt"
	"strings"
	"testing"

	"invariants/api"
	"invariants/invariants"
)

// printed tells what Print answers in one text: the program, or the error's number and place.
func printed(src string) string {
	text, err := invariants.Print(src)
	if err != nil {
		return told(err)
	}
	return text
}

func told(err error) string {
	number, place := api.Tell(err)
	return fmt.Sprintf("error %d at %d", number, place)
}

func syntaxAt(place int) string { return fmt.Sprintf("error %d at %d", api.ErrSyntax, place) }

func depthAt(place int) string { return fmt.Sprintf("error %d at %d", api.ErrDepth, place) }

func long() string { return fmt.Sprintf("error %d at 0", api.ErrLong) }

func lines(all ...string) string {
	if len(all) == 0 {
		return ""
	}
	return strings.Join(all, "\n") + "\n"
}

type example struct{ src, want string }

func check(t *testing.T, examples []example) {
	t.Helper()
	for _, e := range examples {
		if got := printed(e.src); got != e.want {
			t.Errorf("Print(%q):\n%s\nwant\n%s", e.src, got, e.want)
		}
	}
}

// samples are programs in which everything of the grammar stands.
func samples() []string {
	return []string{
		"",
		"a=0;",
		"read h;b=-(a+1)*2-c/3%d;assert a<=b;",
		"if a<1{b=2;}if a>1{}else{read c;}",
		"while a!=20{a=a+2;if a==4{assert b>=0;}else{while c>0{c=c-1;}}}d=32767;",
		"read a ;\n b = 4*( a ) + 1 ;\nassert ( b ) == - ( - 5 ) ;",
	}
}

// draws answers numbers 0 to n-1, the same ones for the same seed.
func draws(seed uint64) func(n int) int {
	return func(n int) int {
		seed = seed*6364136223846793005 + 1442695040888963407
		return int(seed>>33) % n
	}
}
