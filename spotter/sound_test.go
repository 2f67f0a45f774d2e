package spotter

import (
	"fmt"
	"strings"

	"spotter/api"
)

// sound: dice that make patterns with which nothing is wrong, but for their
// size, and streams for them. The schema is "210".
type sound struct {
	dice
	text  string
	kinds map[string]string // by each name the kind of its steps
}

// before: the names that are held ahead of a step, on every way and on some.
type before struct{ sure, some string }

func (s *sound) pattern() string {
	s.text = ""
	s.kinds = map[string]string{}
	s.alt(1+s.roll(3), before{}, false)
	if s.roll(3) == 0 {
		s.write("@" + []string{"0", "1", "2", "3", "5", "000004", "999999999999999999"}[s.roll(7)])
	}
	return s.text
}

func (s *sound) write(text string) {
	s.text += strings.Repeat(" ", max(0, s.roll(12)-10)) + text
}

func (s *sound) alt(size int, b before, repeated bool) before {
	behind := s.seq(size, b, repeated)
	for s.roll(3) == 0 {
		s.write("|")
		other := s.seq(size, b, repeated)
		sure := ""
		for _, name := range strings.Split(behind.sure, "") {
			if strings.Contains(other.sure, name) {
				sure += name
			}
		}
		behind = before{sure, behind.some + other.some}
	}
	return behind
}

func (s *sound) seq(size int, b before, repeated bool) before {
	b = s.rep(size, b, repeated)
	for s.roll(5) < 3 {
		b = s.rep(size, b, repeated)
	}
	return b
}

func (s *sound) rep(size int, b before, repeated bool) before {
	if s.roll(3) > 0 {
		return s.atom(size, b, repeated)
	}
	s.atom(size, b, true)
	low := s.roll(3)
	s.write([]string{"*", "*", "+", "?", fmt.Sprintf("{%d%d}", low, max(low, 1)+s.roll(2))}[s.roll(5)])
	return b
}

func (s *sound) atom(size int, b before, repeated bool) before {
	if size == 0 || s.roll(3) > 0 {
		return s.step(b, repeated)
	}
	s.write("(")
	b = s.alt(size-1, b, repeated)
	s.write(")")
	return b
}

func (s *sound) step(b before, repeated bool) before {
	kind := s.pick("aaaaabb..c")
	s.write(kind)
	name := s.pick("QMAZ")
	isNew := !strings.Contains(b.some, name) && (s.kinds[name] == "" || s.kinds[name] == kind)
	isNamed := !repeated && isNew && s.roll(2) == 0
	if isNamed {
		s.write(name)
	}
	if s.roll(3) == 0 {
		s.write("[")
		s.test(kind, b.sure)
		for n := 1; n < api.MaxTests && s.roll(3) == 0; n++ {
			s.write("&")
			s.test(kind, b.sure)
		}
		s.write("]")
	}
	if isNamed {
		s.kinds[name] = kind
		return before{b.sure + name, b.some + name}
	}
	return b
}

func (s *sound) test(kind string, held string) {
	s.term(kind, held)
	s.write(s.pick("<<>>##="))
	s.term(kind, held)
	if s.roll(3) == 0 {
		s.write(s.pick("++--*"))
		s.term(kind, held)
	}
}

func (s *sound) term(kind string, held string) {
	choice := s.roll(6)
	if choice > 3 && held != "" {
		name := s.pick(held)
		s.write(name)
		kind = s.kinds[name]
	}
	if choice < 2 {
		s.write([]string{"0", "1", "2", "3", "5", "08", "999999999999999999"}[s.roll(7)])
	} else {
		s.write(s.pick(soundFields[kind]))
	}
}

var soundFields = map[string]string{"a": "txxyy", "b": "txx", "c": "t", ".": "t"}

// value answers a number that is small, or at an end of 64 bits.
func (s *sound) value() int {
	if s.roll(5) > 0 {
		return s.roll(5)
	}
	return []int{-1, 1 << 32, 999999999999999999, 1 << 62, 1<<63 - 1, -1 << 63, 1<<63 - 2, -1<<63 + 1}[s.roll(8)]
}

func (s *sound) event(at int) api.Event {
	e := api.Event{At: at, Kind: []int{0, 0, 0, 0, 1, 1, 2}[s.roll(7)]}
	if e.Kind < 2 {
		e.X = s.value()
	}
	if e.Kind < 1 {
		e.Y = s.value()
	}
	return e
}

// bad answers an event that is not good, or too early.
func (s *sound) bad(last int) api.Event {
	e := s.event(last)
	switch s.roll(4) {
	case 0:
		e.At = last - 1
	case 1:
		e.Kind = []int{-1, 3, 4}[s.roll(3)]
	case 2:
		e.Z = 1
	case 3:
		e.At = api.MaxTime + 1
	}
	return e
}

// events answers a stream, and between its events some that do not come into it.
func (s *sound) events() []api.Event {
	var list []api.Event
	for at, n := s.roll(2)*s.roll(9), s.roll(12); n > 0; n-- {
		list = append(list, s.event(at))
		if s.roll(12) == 0 {
			list = append(list, s.bad(at))
		}
		at += s.roll(3)
	}
	return list
}
