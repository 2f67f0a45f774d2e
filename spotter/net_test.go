package spotter

import (
	"slices"
	"strings"
	"testing"

	"spotter/api"
)

// The program of a made pattern by the words of P6. The ways through the
// pattern are laid as a net of knots: where one may stand between two events.

type net struct {
	links  [][]int
	places []place
}

// place: from the knots ahead one comes to arrive, and goes on from leave.
type place struct {
	step          *made
	arrive, leave int
}

func (n *net) knot() int {
	n.links = append(n.links, nil)
	return len(n.links) - 1
}

func (n *net) link(from, to int) { n.links[from] = append(n.links[from], to) }

func (n *net) lay(p *part, in, out int) {
	switch p.op {
	case 's':
		one := place{p.step, n.knot(), n.knot()}
		n.link(in, one.arrive)
		n.link(one.leave, out)
		n.places = append(n.places, one)
	case ',':
		middle := n.knot()
		n.lay(p.left, in, middle)
		n.lay(p.right, middle, out)
	case '|':
		n.lay(p.left, in, out)
		n.lay(p.right, in, out)
	case '{':
		n.layRounds(p, in, out)
	}
}

func (n *net) layRounds(p *part, in, out int) {
	begin := n.knot()
	n.link(in, begin)
	if p.high == 0 {
		end := n.knot()
		n.lay(p.left, begin, end)
		n.link(end, begin)
		n.link(end, out)
		if p.low == 0 {
			n.link(begin, out)
		}
		return
	}
	for round := 0; ; round++ {
		if round >= p.low {
			n.link(begin, out)
		}
		if round == p.high {
			return
		}
		end := n.knot()
		n.lay(p.left, begin, end)
		begin = end
	}
}

// next tells the places to which one may come from a knot, in their order, and
// behind them, by their number, the end.
func (n *net) next(from, end int) []int {
	seen := make([]bool, len(n.links))
	open := []int{from}
	for len(open) > 0 {
		at := open[0]
		open = open[1:]
		if !seen[at] {
			seen[at] = true
			open = append(open, n.links[at]...)
		}
	}
	var list []int
	for i, p := range n.places {
		if seen[p.arrive] {
			list = append(list, i)
		}
	}
	if seen[end] {
		list = append(list, len(n.places))
	}
	return list
}

// chainTo writes a chain with the numbers of places as targets, below zero:
// -1 is place 0.
func chainTo(code []api.Ins, places []int) []api.Ins {
	for i, p := range places {
		if i < len(places)-1 {
			code = append(code, api.Ins{Op: api.Split, A: -1 - p, B: len(code) + 1})
		} else {
			code = append(code, api.Ins{Op: api.Jump, A: -1 - p})
		}
	}
	return code
}

// program tells what Compile should give; a window below zero is none.
func (m *maker) program(whole *part, window int) []api.Ins {
	n := &net{}
	in, out := n.knot(), n.knot()
	n.lay(whole, in, out)
	// An empty stretch is no match: the end is no target ahead of the first event.
	code := chainTo(nil, slices.DeleteFunc(n.next(in, out), func(p int) bool { return p == len(n.places) }))
	var starts []int
	for _, p := range n.places {
		starts = append(starts, len(code))
		code = append(code, m.block(p.step, window)...)
		code = chainTo(code, n.next(p.leave, out))
	}
	starts = append(starts, len(code))
	for i := range code {
		if code[i].A < 0 {
			code[i].A = starts[-1-code[i].A]
		}
	}
	return append(code, api.Ins{Op: api.End})
}

func (m *maker) block(s *made, window int) []api.Ins {
	code := []api.Ins{{Op: api.Take, A: strings.Index("abcd.", s.kind)}}
	if window >= 0 {
		code = append(code, api.Ins{Op: api.Span, A: window})
	}
	for _, test := range s.tests {
		var words []string
		for _, word := range test {
			if place := m.holdPlace(word[:1]); place >= 0 {
				word = string(rune('0'+place)) + word[1:]
			}
			words = append(words, word)
		}
		code = append(code, api.Ins{Op: api.Only, Test: testOf(words)})
	}
	if s.name != "" {
		code = append(code, api.Ins{Op: api.Hold, A: m.holdPlace(s.name)})
	}
	return code
}

func (m *maker) holdPlace(name string) int {
	var names []string
	for _, s := range m.steps {
		if s.name != "" && !slices.Contains(names, s.name) {
			names = append(names, s.name)
		}
	}
	return slices.Index(names, name)
}

func TestMadePrograms(t *testing.T) {
	d := dice(7)
	large, held, windows := 0, 0, 0
	for i := 0; i < 30000; i++ {
		m := &maker{dice: dice(d.roll(1 << 30)), plain: i%2 == 0, careful: i%4 == 1}
		whole := m.whole()
		if len(m.text) > api.MaxText-6 || len(m.steps) > 30 {
			continue
		}
		want := m.answer(whole)
		text := m.text
		window := -1
		if d.roll(3) == 0 {
			window = d.roll(10)
			text += " @ " + string(rune('0'+window))
		}
		if want.e != api.OK {
			if code, e := Compile("21", text); code != nil || e != want.e {
				t.Fatalf("Compile(%q) = %v, %d, want %d", text, code, e, want.e)
			}
			continue
		}
		program := m.program(whole, window)
		wantCode(t, "21", text, program)
		if t.Failed() {
			return
		}
		large += bit(len(program) > 100)
		held += bit(slices.ContainsFunc(program, readsBehindTheFirst))
		windows += bit(window >= 0)
	}
	if large < 100 || held < 100 || windows < 200 {
		t.Errorf("the dice made only %d large programs, %d that read what is held, %d with windows", large, held, windows)
	}
}

// readsBehindTheFirst tells whether a test reads what is held at place 1 or later.
func readsBehindTheFirst(x api.Ins) bool {
	return max(x.Test.Left.Of, x.Test.Right.Of, x.Test.More.Of) > api.OfHeld
}

func bit(so bool) int {
	if so {
		return 1
	}
	return 0
}
