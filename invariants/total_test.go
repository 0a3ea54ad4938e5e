package invariants_test

import (
	"errors"
	"math"
	"reflect"
	"slices"
	"strings"
	"sync"
	"testing"

	"invariants/api"
	"invariants/invariants"
)

// checkTotal makes each call with a text, and looks at the shape of what they answer.
func checkTotal(t *testing.T, src string) {
	t.Helper()
	text, err := invariants.Print(src)
	if err != nil && text != "" {
		t.Errorf("Print(%q): a text beside %v", src, err)
	}
	checkError(t, src, err)
	for _, fuel := range []int{math.MinInt, -1, 0, 9, math.MaxInt} {
		trace, ranErr := invariants.Run(src, []int16{-32768, 0, 32767}, fuel)
		checkSameFault(t, src, err, ranErr)
		switch out := fuel < 0 || fuel > api.MaxFuel; {
		case ranErr != nil && !reflect.DeepEqual(trace, api.Trace{}):
			t.Errorf("Run(%q): a trace beside %v", src, ranErr)
		case err == nil && out && ranErr != api.ErrFuel:
			t.Errorf("Run(%q, fuel %d): %v", src, fuel, ranErr)
		case err == nil && !out && (ranErr != nil || len(trace.Visits) > fuel || trace.Stop < api.Spent):
			t.Errorf("Run(%q, fuel %d): %v, %v", src, fuel, trace, ranErr)
		}
	}
	checkTotalAnalyze(t, src, err)
}

func checkTotalAnalyze(t *testing.T, src string, printed error) {
	t.Helper()
	for cfg, want := range map[api.Config]error{
		{}: nil,
		{Delay: 1, Narrow: 1, Unroll: 1, Thresholds: true}:                                  nil,
		{Domain: api.Congruences, Thresholds: true}:                                         nil,
		{Unroll: api.MaxUnroll + 1}:                                                         api.ErrConfig,
		{Domain: math.MinInt, Delay: -1, Narrow: math.MaxInt, Unroll: math.MinInt}:          api.ErrConfig,
		{Domain: api.Congruences, Delay: math.MaxInt, Narrow: math.MinInt, Unroll: 1 << 32}: api.ErrConfig,
	} {
		report, err := invariants.Analyze(src, cfg)
		if err != nil && !reflect.DeepEqual(report, api.Report{}) {
			t.Errorf("Analyze(%q): a report beside %v", src, err)
		}
		checkSameFault(t, src, printed, err)
		if printed == nil && err != want {
			t.Errorf("Analyze(%q, %v): %v, want %v", src, cfg, err, want)
		}
	}
}

// checkSameFault holds each call to the text's error, which comes ahead of all others.
func checkSameFault(t *testing.T, src string, printed, other error) {
	t.Helper()
	if printed != nil && !reflect.DeepEqual(printed, other) {
		t.Errorf("%q: Print tells %v, another call %v", src, printed, other)
	}
}

func checkError(t *testing.T, src string, err error) {
	t.Helper()
	var fault *api.Fault
	switch {
	case len(src) > api.MaxText:
		if err != api.ErrLong {
			t.Errorf("%q: %v, want ErrLong alone", src, err)
		}
	case err == nil:
	case !errors.As(err, &fault):
		t.Errorf("%q: %v is no *api.Fault", src, err)
	case fault.Err != api.ErrSyntax && fault.Err != api.ErrDepth:
		t.Errorf("%q: %v is neither ErrSyntax nor ErrDepth", src, err)
	case fault.Where() < 0 || fault.Where() > len(src):
		t.Errorf("%q: %v is outside the text", src, err)
	}
}

func TestP1AllShortTexts(t *testing.T) {
	for first := range 256 {
		checkTotal(t, string([]byte{byte(first)}))
		for second := range 256 {
			if text, err := invariants.Print(string([]byte{byte(first), byte(second)})); err != nil && text != "" {
				t.Errorf("bytes %d and %d: a text beside %v", first, second, err)
			}
		}
	}
}

func TestP1BrokenPrograms(t *testing.T) {
	for _, src := range samples() {
		for at := range len(src) {
			checkTotal(t, src[:at])
			checkTotal(t, src[at:])
			checkTotal(t, src[:at]+src[at+1:])
			for _, c := range []byte(" \n\t\x00\xff!=<-+*/%(){};019aehiz") {
				checkTotal(t, src[:at]+string([]byte{c})+src[at+1:])
				checkTotal(t, src[:at]+string([]byte{c})+src[at:])
			}
		}
	}
}

func TestP1LongAndDeepTexts(t *testing.T) {
	for _, part := range []string{"(", "-", "{", "a=(", "a=-", "a=1;", "a+", "9", "0", "z", " ", "\xff", "if a<1{", "while a<1{", "if a<1{}else{"} {
		for _, size := range []int{12, 13, 100, api.MaxText, api.MaxText + 1, 1 << 20} {
			text := strings.Repeat(part, size/len(part)+1)[:size]
			checkTotal(t, text)
			checkTotal(t, "a="+text)
		}
	}
}

func TestP1RandomTokens(t *testing.T) {
	tokens := strings.Fields("a h i ab read assert if else while 0 7 32767 32768 01 <= >= == != < > = + - * / % ( ) { } ; ! ? a=1; a<b a<b{")
	draw := draws(1)
	for range 20000 {
		var src strings.Builder
		for range 1 + draw(20) {
			src.WriteString(tokens[draw(len(tokens))] + strings.Repeat(" ", draw(2)))
		}
		checkTotal(t, src.String())
	}
}

// Where several errors apply, the one named first is told: ErrLong ahead of the faults.
func TestP1FirstNamedError(t *testing.T) {
	filler := strings.Repeat(" ", api.MaxText)
	check(t, []example{
		{"a=?" + filler, long()},
		{"a=" + strings.Repeat("(", 13) + filler, long()},
		{"a=1;" + filler, long()},
	})
}

func TestP2SameAnswerAgain(t *testing.T) {
	texts := append(samples(), "a=?", "a=1", "a="+strings.Repeat("-", 13), strings.Repeat(" ", api.MaxText+1))
	answers := func(src string) string {
		return printed(src) + ran(src, []int16{3, -1}, 40) + ran(src, nil, api.MaxFuel) + ran(src, nil, -1) +
			analyzed(src, api.Config{}) + analyzed(src, api.Config{Delay: 2, Narrow: 2, Unroll: 2, Thresholds: true}) + analyzed(src, api.Config{Delay: -1}) +
			analyzed(src, api.Config{Domain: api.Congruences}) + analyzed(src, api.Config{Domain: api.Congruences, Delay: 2, Narrow: 2, Unroll: 2})
	}
	first := map[string]string{}
	for _, src := range texts {
		first[src] = answers(src)
	}
	slices.Reverse(texts)
	var all sync.WaitGroup
	for range 8 {
		all.Go(func() {
			for _, src := range texts {
				if got := answers(src); got != first[src] {
					t.Errorf("%q: %q, but %q at first", src, got, first[src])
				}
			}
		})
	}
	all.Wait()
}

func TestP2FreshFaults(t *testing.T) {
	for _, src := range []string{"a=1", "a=" + strings.Repeat("(", 13)} {
		_, one := invariants.Print(src)
		before := told(one)
		var fault *api.Fault
		if !errors.As(one, &fault) {
			t.Fatalf("Print(%q): %v is no *api.Fault", src, one)
		}
		fault.At, fault.Err = 77, api.ErrFuel
		if got := printed(src); got != before {
			t.Errorf("Print(%q): %s behind a written fault, want %s", src, got, before)
		}
	}
}
