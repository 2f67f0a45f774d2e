package spotter

import (
	"fmt"
	"slices"
	"strconv"
	"strings"
	"testing"

	"spotter/api"
)

var opNames = []string{"Take", "Span", "Only", "Hold", "Jump", "Split", "End"}

// codeOf reads instructions as the document writes them: an Op with its
// numbers, or Only with a test in which the events that are held are read by
// their places ("Only x > 0x + 1").
func codeOf(text string) []api.Ins {
	var code []api.Ins
	for _, line := range strings.Split(text, ", ") {
		words := strings.Fields(line)
		x := api.Ins{Op: slices.Index(opNames, words[0])}
		if x.Op == api.Only {
			x.Test = testOf(words[1:])
		} else {
			numbers := [3]int{}
			for i, word := range words[1:] {
				numbers[i], _ = strconv.Atoi(word)
			}
			x.A = numbers[0]
			x.B = numbers[1]
		}
		code = append(code, x)
	}
	return code
}

func testOf(words []string) api.Test {
	x := api.Test{Left: termOf(words[0]), Rel: strings.Index("<>=#", words[1]), Right: termOf(words[2])}
	if len(words) == 5 {
		x.Arith = 1 + strings.Index("+-*", words[3])
		x.More = termOf(words[4])
	}
	return x
}

func termOf(word string) api.Term {
	field := strings.Index("txyz", word[len(word)-1:])
	if field < 0 {
		number, _ := strconv.Atoi(word)
		return api.Term{Num: number}
	}
	if len(word) == 1 {
		return api.Term{Of: api.OfEvent, Field: field}
	}
	return api.Term{Of: api.OfHeld + int(word[0]-'0'), Field: field}
}

func wantCode(t *testing.T, schema string, text string, want []api.Ins) {
	t.Helper()
	code, e := Compile(schema, text)
	if e != api.OK || !slices.Equal(code, want) {
		t.Errorf("Compile(%q, %q) = %v, %d, want %v", schema, text, code, e, want)
	}
	if e, at := Valid(code); e != api.OK || at != 0 {
		t.Errorf("Valid of Compile(%q, %q) = %d, %d", schema, text, e, at)
	}
}

func wantPrograms(t *testing.T, schema string, programs map[string]string) {
	t.Helper()
	for text, want := range programs {
		wantCode(t, schema, text, codeOf(want))
	}
}

func wantValid(t *testing.T, code []api.Ins, e api.Errno, at int) {
	t.Helper()
	if gotE, gotAt := Valid(code); gotE != e || gotAt != at {
		t.Errorf("Valid(%s) = %d, %d, want %d, %d", brief(code), gotE, gotAt, e, at)
	}
}

func brief(code []api.Ins) string {
	return fmt.Sprintf("%d instructions: %.400s", len(code), fmt.Sprint(code))
}
