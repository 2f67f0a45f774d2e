package spotter

import (
	"fmt"
	"strings"
	"testing"

	"spotter/api"
)

// The rules of 'The form of a pattern', turned into a recognizer that knows of
// every beginning of a text whether some pattern begins with it (Earley's
// method: it looks at all derivations side by side and at no byte ahead).

// symbol: a rule's name, or the bytes of which one may stand there.
type symbol struct {
	rule  string
	bytes string
}

type grammar map[string][][]symbol

// rule adds a way to make a name: words are names of rules, or bytes behind a quote.
func (g grammar) rule(name string, words string) {
	var right []symbol
	for _, word := range strings.Fields(words) {
		if word[0] == '\'' {
			right = append(right, symbol{bytes: word[1:]})
		} else {
			right = append(right, symbol{rule: word})
		}
	}
	g[name] = append(g[name], right)
}

func formOfPatterns() grammar {
	g := grammar{}
	g.rule("pattern", "alt0")
	g.rule("pattern", "alt0 '@ number1")
	for d := 0; d <= 8; d++ {
		g.rule(fmt.Sprint("alt", d), fmt.Sprintf("seq%d", d))
		g.rule(fmt.Sprint("alt", d), fmt.Sprintf("alt%d '| seq%d", d, d))
		g.rule(fmt.Sprint("seq", d), fmt.Sprintf("rep%d", d))
		g.rule(fmt.Sprint("seq", d), fmt.Sprintf("seq%d rep%d", d, d))
		g.rule(fmt.Sprint("rep", d), fmt.Sprintf("atom%d", d))
		g.rule(fmt.Sprint("rep", d), fmt.Sprintf("atom%d '*+?", d))
		g.rule(fmt.Sprint("rep", d), fmt.Sprintf("atom%d '{ counts '}", d))
		g.rule(fmt.Sprint("atom", d), "step")
		if d < 8 {
			g.rule(fmt.Sprint("atom", d), fmt.Sprintf("'( alt%d ')", d+1))
		}
	}
	for low := 0; low <= 9; low++ {
		g.rule("counts", fmt.Sprintf("'%d '%s", low, "0123456789"[max(low, 1):]))
	}
	letters := "ABCDEFGHIJKLMNOPQRSTUVWXYZ"
	for _, name := range []string{"", "'" + letters} {
		g.rule("step", "'abcd. "+name)
		g.rule("step", "'abcd. "+name+" '[ tests ']")
		g.rule("term", name+" 'txyz")
	}
	g.rule("term", "number1")
	g.rule("tests", "test")
	g.rule("tests", "tests '& test")
	g.rule("test", "term '<>=# term")
	g.rule("test", "term '<>=# term '+-* term")
	for k := 1; k <= 18; k++ {
		g.rule(fmt.Sprint("number", k), "'0123456789")
		if k < 18 {
			g.rule(fmt.Sprint("number", k), fmt.Sprint("'0123456789 number", k+1))
		}
	}
	return g
}

// item: so much of a way to make a name has been read, from a column on.
type item struct {
	name      string
	way, done int
	from      int
}

type column struct {
	items []item
	has   map[item]bool
	next  [256]bool // the bytes that can stand behind
}

func (c *column) add(it item) {
	if !c.has[it] {
		c.has[it] = true
		c.items = append(c.items, it)
	}
}

type recognizer struct {
	g       grammar
	columns []*column
}

func newRecognizer() *recognizer {
	r := &recognizer{g: formOfPatterns()}
	first := &column{has: map[item]bool{}}
	for way := range r.g["pattern"] {
		first.add(item{name: "pattern", way: way})
	}
	r.columns = append(r.columns, first)
	r.close(first)
	return r
}

func (r *recognizer) last() *column { return r.columns[len(r.columns)-1] }

// next answers the symbol that an item waits for, and false if it is whole.
func (r *recognizer) next(it item) (symbol, bool) {
	right := r.g[it.name][it.way]
	if it.done == len(right) {
		return symbol{}, false
	}
	return right[it.done], true
}

func (r *recognizer) close(c *column) {
	here := len(r.columns) - 1
	for i := 0; i < len(c.items); i++ {
		it := c.items[i]
		want, more := r.next(it)
		for _, b := range []byte(want.bytes) {
			c.next[b] = true
		}
		if !more {
			for _, waiting := range r.columns[it.from].items {
				if s, ok := r.next(waiting); ok && s.rule == it.name {
					waiting.done++
					c.add(waiting)
				}
			}
		} else if want.rule != "" {
			for way := range r.g[want.rule] {
				c.add(item{name: want.rule, way: way, from: here})
			}
		}
	}
}

// canStand tells whether some pattern begins with what was read and this byte.
func (r *recognizer) canStand(b byte) bool {
	return b == ' ' || r.last().next[b]
}

// isPattern tells whether what was read is a pattern.
func (r *recognizer) isPattern() bool {
	for _, it := range r.last().items {
		if _, more := r.next(it); it.name == "pattern" && !more {
			return true
		}
	}
	return false
}

// read goes on behind a byte that can stand. Blanks leave no trace.
func (r *recognizer) read(b byte) {
	if b == ' ' {
		return
	}
	c := &column{has: map[item]bool{}}
	for _, it := range r.last().items {
		if s, ok := r.next(it); ok && strings.IndexByte(s.bytes, b) >= 0 {
			it.done++
			c.add(it)
		}
	}
	r.columns = append(r.columns, c)
	r.close(c)
}

// wantBytesBehind holds Check against the recognizer for every byte behind a beginning.
func wantBytesBehind(t *testing.T, r *recognizer, begun string) {
	t.Helper()
	e, at := Check("3333", begun)
	if r.isPattern() == (e == api.ErrSyntax) || e == api.ErrSyntax && at != len(begun) {
		t.Fatalf("Check(%q) = %d, %d; a pattern: %v", begun, e, at, r.isPattern())
	}
	for b := 0; b < 256; b++ {
		text := begun + string([]byte{byte(b)})
		e, at := Check("3333", text)
		stands := e != api.ErrSyntax || at == len(text)
		if stands != r.canStand(byte(b)) || !stands && at != len(begun) {
			t.Fatalf("Check(%q) = %d, %d; the last byte can stand: %v", text, e, at, !stands)
		}
	}
}

func TestEveryShortBeginning(t *testing.T) {
	r := newRecognizer()
	var try func(begun string, more int)
	try = func(begun string, more int) {
		wantBytesBehind(t, r, begun)
		if more == 0 {
			return
		}
		columns := len(r.columns)
		// Of bytes that all rules treat alike, one: but for the digits, which a {lh} tells apart.
		for _, b := range []byte("aA()|*{}039[x<+&]@ ") {
			if r.canStand(b) {
				r.read(b)
				try(begun+string(rune(b)), more-1)
				r.columns = r.columns[:columns]
			}
		}
	}
	try("", 6)
}

func TestLongBeginnings(t *testing.T) {
	d := dice(2)
	for round := 0; round < 90; round++ {
		r := newRecognizer()
		begun := ""
		// Each walk has bytes that it likes: deep ones, long numbers, many tests.
		liked := []string{"(", "0", "0 ", "(a|", "&x<1", "[x<1+2]", ")a(", "@0", "{09}"}[round%9]
		for len(begun) < 60 {
			b := d.pick("abcd.ABZ[]()|&*+?{}<>=#-@txyz0123456789 ")[0]
			if d.roll(3) > 0 {
				b = d.pick(liked)[0]
			}
			if r.canStand(b) {
				r.read(b)
				begun += string(rune(b))
				wantBytesBehind(t, r, begun)
			}
		}
	}
}
