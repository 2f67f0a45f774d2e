package spotter

import (
	"slices"
	"strconv"
	"strings"

	"spotter/api"
)

// What a pattern takes, by the words of the document: the text is read anew,
// and each part tells, of a stream that is known whole, which stretches it takes.

// words: a pattern that Check finds nothing wrong with.
type words struct {
	text   string // without its blanks
	at     int    // so much of it has been read
	names  []string
	window int // -1: there is none
	whole  *part
}

func wordsOf(text string) *words {
	w := &words{text: strings.ReplaceAll(text, " ", ""), window: -1}
	w.whole = w.alt()
	if w.may("@") {
		w.window = w.number()
	}
	return w
}

// sees tells whether the next byte is one of these.
func (w *words) sees(bytes string) bool {
	return w.at < len(w.text) && strings.Contains(bytes, w.text[w.at:w.at+1])
}

func (w *words) next() string {
	w.at++
	return w.text[w.at-1 : w.at]
}

func (w *words) may(bytes string) bool {
	if !w.sees(bytes) {
		return false
	}
	w.at++
	return true
}

func (w *words) number() int {
	digits := ""
	for w.sees("0123456789") {
		digits += w.next()
	}
	n, _ := strconv.Atoi(digits)
	return n
}

func (w *words) alt() *part {
	p := w.seq()
	for w.may("|") {
		p = &part{op: '|', left: p, right: w.seq()}
	}
	return p
}

func (w *words) seq() *part {
	p := w.rep()
	for w.sees("(abcd.") {
		p = &part{op: ',', left: p, right: w.rep()}
	}
	return p
}

func (w *words) rep() *part {
	p := w.atom()
	if !w.sees("*+?{") {
		return p
	}
	rounds := &part{op: '{', left: p, sign: w.next()}
	switch rounds.sign {
	case "+":
		rounds.low = 1
	case "?":
		rounds.high = 1
	case "{":
		rounds.sign += w.next() + w.next() + w.next()
		rounds.low = int(rounds.sign[1] - '0')
		rounds.high = int(rounds.sign[2] - '0')
	}
	return rounds
}

func (w *words) atom() *part {
	if w.may("(") {
		p := w.alt()
		w.next()
		return p
	}
	s := &made{kind: w.next()}
	if w.sees("ABCDEFGHIJKLMNOPQRSTUVWXYZ") {
		s.name = w.next()
		if !slices.Contains(w.names, s.name) {
			w.names = append(w.names, s.name)
		}
	}
	if w.may("[") {
		s.tests = append(s.tests, w.test())
		for w.next() == "&" {
			s.tests = append(s.tests, w.test())
		}
	}
	return &part{op: 's', step: s}
}

func (w *words) test() []string {
	test := []string{w.term(), w.next(), w.term()}
	if w.sees("+-*") {
		test = append(test, w.next(), w.term())
	}
	return test
}

func (w *words) term() string {
	if w.sees("0123456789") {
		return strconv.Itoa(w.number())
	}
	if w.sees("txyz") {
		return w.next()
	}
	return w.next() + w.next()
}

// come: how far a stretch has come, and what is held, by the names' places.
type come struct {
	to   int
	held [4]int
}

// taker: a pattern and the stream of which it takes stretches.
type taker struct {
	*words
	stream []api.Event
}

// take answers how far the stretches come, and with what, that go on by what a
// part takes.
func (k *taker) take(p *part, from map[come]bool) map[come]bool {
	out := map[come]bool{}
	switch p.op {
	case 's':
		for c := range from {
			if k.takesOne(p.step, c) {
				out[k.behind(p.step, c)] = true
			}
		}
	case ',':
		return k.take(p.right, k.take(p.left, from))
	case '|':
		addCome(out, k.take(p.left, from))
		addCome(out, k.take(p.right, from))
	case '{':
		for round := 0; ; round++ {
			more := round < p.low
			if !more {
				more = addCome(out, from)
			}
			if !more || round == p.high && p.high > 0 {
				break
			}
			from = k.take(p.left, from)
		}
	}
	return out
}

// addCome tells whether there was something new.
func addCome(set map[come]bool, more map[come]bool) bool {
	count := len(set)
	for c := range more {
		set[c] = true
	}
	return len(set) > count
}

func (k *taker) takesOne(s *made, c come) bool {
	if c.to == len(k.stream) || s.kind != "." && strings.Index("abcd", s.kind) != k.stream[c.to].Kind {
		return false
	}
	for _, test := range s.tests {
		if !k.isSo(test, c) {
			return false
		}
	}
	return true
}

func (k *taker) isSo(test []string, c come) bool {
	left, right, arith, more := k.value(test[0], c), k.value(test[2], c), api.Alone, 0
	if len(test) > 3 {
		arith = 1 + strings.Index("+-*", test[3])
		more = k.value(test[4], c)
	}
	return isSo(left, strings.Index("<>=#", test[1]), right, arith, more)
}

func (k *taker) value(term string, c come) int {
	if n, err := strconv.Atoi(term); err == nil {
		return n
	}
	e := k.stream[c.to]
	if len(term) == 2 {
		e = k.stream[c.held[slices.Index(k.names, term[:1])]]
	}
	switch term[len(term)-1] {
	case 't':
		return e.At
	case 'x':
		return e.X
	case 'y':
		return e.Y
	}
	return e.Z
}

func (k *taker) behind(s *made, c come) come {
	if s.name != "" {
		c.held[slices.Index(k.names, s.name)] = c.to
	}
	c.to++
	return c
}

// matchesIn answers by each event the matches that end with it.
func (w *words) matchesIn(stream []api.Event) []map[api.Match]bool {
	k := &taker{w, stream}
	list := make([]map[api.Match]bool, len(stream))
	for i := range list {
		list[i] = map[api.Match]bool{}
	}
	for first := range stream {
		begin := come{first, [4]int{-1, -1, -1, -1}}
		for c := range k.take(w.whole, map[come]bool{begin: true}) {
			if c.to > first && (w.window < 0 || stream[c.to-1].At-stream[first].At <= w.window) {
				list[c.to-1][api.Match{First: first, Last: c.to - 1, Held: c.held}] = true
			}
		}
	}
	return list
}
