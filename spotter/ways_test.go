package spotter

import (
	"fmt"
	"strings"
	"testing"

	"spotter/api"
)

// Patterns made by dice, of which P4 and P5 are told by the words of the
// document: ways are gone one by one, and repetitions are written out.

type part struct {
	op        byte // 's' step, ',' one behind the other, '|' either, '{' rounds
	left      *part
	right     *part
	low, high int    // high 0: without end
	sign      string // how the rounds are written
	step      *made
}

type made struct {
	kind     string
	name     string
	tests    [][]string // as they are written: a term, a relation, a term, and so on
	reads    []string   // the terms of its tests that are fields
	at       int
	repeated bool
	ahead    map[string]bool // by each way to it the names that are held
}

// maker makes the text of a pattern along with its parts. A plain one makes
// few names and tests, and many rounds; a careful one a row of parts, with
// names that are new.
type maker struct {
	dice    dice
	plain   bool
	careful bool
	text    string
	steps   []*made
}

func (m *maker) write(text string) {
	m.text += strings.Repeat(" ", max(0, m.dice.roll(8)-6)) + text
}

func (m *maker) whole() *part {
	if !m.careful {
		return m.alt(3)
	}
	p := m.rep(1)
	for n := m.dice.roll(6); n > 0; n-- {
		p = &part{op: ',', left: p, right: m.rep(m.dice.roll(2))}
	}
	return p
}

func (m *maker) alt(size int) *part {
	p := m.seq(size)
	for m.dice.roll(3) == 0 {
		m.write("|")
		p = &part{op: '|', left: p, right: m.seq(size)}
	}
	return p
}

func (m *maker) seq(size int) *part {
	p := m.rep(size)
	for m.dice.roll(2) == 0 {
		p = &part{op: ',', left: p, right: m.rep(size)}
	}
	return p
}

func (m *maker) rep(size int) *part {
	p := m.atom(size)
	if m.dice.roll(6) > 0 && !(m.plain && m.dice.roll(3) > 0) {
		return p
	}
	low := m.dice.roll(3)
	high := max(low, 1) + m.dice.roll(3)
	choice := []part{
		{sign: "*"}, {low: 1, sign: "+"}, {high: 1, sign: "?"},
		{low: low, high: high, sign: fmt.Sprintf("{%d%d}", low, high)},
	}[m.dice.roll(4)]
	m.write(choice.sign)
	choice.op = '{'
	choice.left = p
	return &choice
}

func (m *maker) atom(size int) *part {
	if size == 0 || m.dice.roll(3) > 0 {
		return m.step()
	}
	m.write("(")
	p := m.alt(size - 1)
	m.write(")")
	return p
}

func (m *maker) step() *part {
	// Most kinds are a, so that names are often of one kind.
	s := &made{kind: m.dice.pick("aaaaaaaaaaaaaaaaaaaaaaab.b.c"), ahead: map[string]bool{}}
	m.write("")
	s.at = len(m.text)
	m.text += s.kind
	if m.plain && m.dice.roll(6) > 0 {
		m.steps = append(m.steps, s)
		return &part{op: 's', step: s}
	}
	if m.dice.roll(3) == 0 || m.careful && m.dice.roll(2) == 0 {
		s.name = m.dice.pick("AAAABCDEF")
		if m.careful {
			s.name = m.newName()
		}
		m.write(s.name)
	}
	if m.dice.roll(3) == 0 {
		m.write("[")
		m.test(s)
		for m.dice.roll(3) == 0 {
			m.write("&")
			m.test(s)
		}
		m.write("]")
	}
	m.steps = append(m.steps, s)
	return &part{op: 's', step: s}
}

// newName goes backwards through the letters, that their order is not that of the places.
func (m *maker) newName() string {
	letters := "WXYZ"
	for _, s := range m.steps {
		if s.name != "" && len(letters) > 1 {
			letters = letters[:len(letters)-1]
		}
	}
	return letters[len(letters)-1:]
}

func (m *maker) test(s *made) {
	test := []string{m.term(s), m.sign("<>=#"), m.term(s)}
	if m.dice.roll(4) == 0 {
		test = append(test, m.sign("+-*"), m.term(s))
	}
	s.tests = append(s.tests, test)
}

func (m *maker) sign(signs string) string {
	sign := m.dice.pick(signs)
	m.write(sign)
	return sign
}

func (m *maker) term(s *made) string {
	switch m.dice.roll(5) {
	case 0, 1:
		return m.sign("0123456789")
	case 2, 3:
		s.reads = append(s.reads, m.dice.pick("ttttxxxy"))
	case 4:
		names := "B"
		for _, other := range m.steps {
			names += strings.Repeat(other.name, 9)
		}
		s.reads = append(s.reads, m.dice.pick(names)+m.dice.pick("ttttxxxy"))
	}
	read := s.reads[len(s.reads)-1]
	m.write(read)
	return read
}

// walk goes from each of the ways that lead to a part on through it.
func (p *part) walk(in map[string]bool, repeated bool) map[string]bool {
	out := map[string]bool{}
	switch p.op {
	case 's':
		p.step.repeated = repeated
		for way := range in {
			p.step.ahead[way] = true
			out[hold(way, p.step.name)] = true
		}
	case ',':
		return p.right.walk(p.left.walk(in, repeated), repeated)
	case '|':
		addAll(out, p.left.walk(in, repeated))
		addAll(out, p.right.walk(in, repeated))
	case '{':
		most := p.high
		if most == 0 {
			most = p.low + 2
		}
		for round := 0; round <= most; round++ {
			if round >= p.low {
				addAll(out, in)
			}
			if round < most {
				in = p.left.walk(in, true)
			}
		}
	}
	return out
}

// hold answers a way's names, each once and in the order of the letters.
func hold(way string, name string) string {
	if strings.Contains(way, name) {
		return way
	}
	i := 0
	for i < len(way) && way[i] < name[0] {
		i++
	}
	return way[:i] + name + way[i:]
}

func addAll(set map[string]bool, more map[string]bool) {
	for way := range more {
		set[way] = true
	}
}

// fieldsOf: the schema is "21" in these tests.
var fieldsOf = map[string]string{"a": "txy", "b": "tx", ".": "t"}

func (m *maker) isWrong(number int) bool {
	s := m.steps[number]
	if _, ok := fieldsOf[s.kind]; !ok || s.name != "" && s.repeated {
		return true
	}
	for way := range s.ahead {
		if s.name != "" && strings.Contains(way, s.name) {
			return true
		}
	}
	for _, other := range m.steps[:number] {
		if s.name != "" && other.name == s.name && other.kind != s.kind {
			return true
		}
	}
	for _, read := range s.reads {
		if len(read) == 1 && !strings.Contains(fieldsOf[s.kind], read) || len(read) == 2 && m.isWrongRead(s, read) {
			return true
		}
	}
	return false
}

func (m *maker) isWrongRead(s *made, read string) bool {
	for way := range s.ahead {
		if !strings.Contains(way, read[:1]) {
			return true
		}
	}
	for _, first := range m.steps {
		if first.name == read[:1] {
			return !strings.Contains(fieldsOf[first.kind], read[1:])
		}
	}
	return true
}

// writtenOut writes a pattern's steps as 's', and its counted rounds as P5 tells.
func (p *part) writtenOut() string {
	switch p.op {
	case 's':
		return "s"
	case ',':
		return p.left.writtenOut() + p.right.writtenOut()
	case '|':
		return "(" + p.left.writtenOut() + "|" + p.right.writtenOut() + ")"
	}
	body := "(" + p.left.writtenOut() + ")"
	if len(p.sign) == 1 {
		return body + p.sign
	}
	inner := ""
	for i := p.low; i < p.high; i++ {
		inner = "(" + body + inner + ")?"
	}
	return strings.Repeat(body, p.low) + inner
}

// isLarge goes by the text: its names, its tests, its steps when written out.
func (m *maker) isLarge(whole *part) bool {
	names := map[string]bool{}
	for _, s := range m.steps {
		if s.name != "" {
			names[s.name] = true
		}
	}
	for _, piece := range strings.Split(m.text, "[")[1:] {
		if strings.Count(piece[:strings.Index(piece, "]")], "&") > 3 {
			return true
		}
	}
	return len(names) > 4 || strings.Count(whole.writtenOut(), "s") > 24
}

func (m *maker) answer(whole *part) answer {
	whole.walk(map[string]bool{"": true}, false)
	for i, s := range m.steps {
		if m.isWrong(i) {
			return answer{"21", m.text, api.ErrType, s.at}
		}
	}
	if m.isLarge(whole) {
		return answer{"21", m.text, api.ErrLarge, 0}
	}
	return answer{"21", m.text, api.OK, 0}
}

func (m *maker) readsHeld() bool {
	for _, s := range m.steps {
		for _, read := range s.reads {
			if len(read) == 2 {
				return true
			}
		}
	}
	return false
}

func TestMadePatterns(t *testing.T) {
	d := dice(3)
	var seen [api.ErrSpent + 1]int
	reads := 0
	for i := 0; i < 60000; i++ {
		m := &maker{dice: dice(d.roll(1 << 30)), plain: i%2 == 0}
		whole := m.whole()
		if len(m.text) > api.MaxText || len(m.steps) > 30 {
			continue
		}
		want := m.answer(whole)
		seen[want.e]++
		if want.e == api.OK && m.readsHeld() {
			reads++
		}
		wantAnswers(t, []answer{want})
	}
	for _, e := range []api.Errno{api.OK, api.ErrType, api.ErrLarge} {
		if seen[e] < 200 {
			t.Errorf("the dice made only %d patterns with the answer %d", seen[e], e)
		}
	}
	if reads < 200 {
		t.Errorf("the dice made only %d patterns that read what is held", reads)
	}
}
