package spotter

import (
	"slices"
	"testing"

	"spotter/api"
)

// A machine that runs programs by the words of the document: it keeps the whole
// stream, and goes on with each thread by itself.

type stand struct {
	at, first int
	held      [4]int
}

type machine struct {
	schema  string
	lim     api.Limits
	code    []api.Ins
	stream  []api.Event
	waiting map[stand]bool
	spent   bool
}

// flow: where the threads of a machine come to with an event, or ahead of it.
type flow struct {
	code    []api.Ins
	stream  []api.Event
	hand    int // -1: no event is at hand
	seen    map[stand]bool
	waiting map[stand]bool
	matches map[api.Match]bool
}

func (m *machine) flow(stream []api.Event, hand int) *flow {
	return &flow{m.code, stream, hand, map[stand]bool{}, map[stand]bool{}, map[api.Match]bool{}}
}

func (f *flow) goOn(s stand) {
	if f.seen[s] {
		return
	}
	f.seen[s] = true
	x := f.code[s.at]
	next := s
	next.at++
	switch x.Op {
	case api.Take:
		f.waiting[s] = true
	case api.Span:
		if f.hand >= 0 && f.stream[f.hand].At <= f.stream[s.first].At+min(x.A, 2*api.MaxTime) {
			f.goOn(next)
		}
	case api.Only:
		if f.hand >= 0 && f.isSo(s, x.Test) {
			f.goOn(next)
		}
	case api.Hold:
		if f.hand >= 0 {
			next.held[x.A] = f.hand
			f.goOn(next)
		}
	case api.Jump:
		next.at = x.A
		f.goOn(next)
	case api.Split:
		next.at = x.A
		f.goOn(next)
		next.at = x.B
		f.goOn(next)
	case api.End:
		if f.hand >= 0 {
			f.matches[api.Match{First: s.first, Last: f.hand, Held: s.held}] = true
		}
	}
}

func (f *flow) isSo(s stand, test api.Test) bool {
	var numbers [3]int
	for i, term := range []api.Term{test.Left, test.Right, test.More} {
		if term.Of == api.OfNumber {
			numbers[i] = term.Num
			continue
		}
		number := f.hand
		if term.Of >= api.OfHeld {
			number = s.held[term.Of-api.OfHeld]
		}
		if number < 0 {
			return false
		}
		e := f.stream[number]
		numbers[i] = []int{e.At, e.X, e.Y, e.Z}[term.Field]
	}
	return isSo(numbers[0], test.Rel, numbers[1], test.Arith, numbers[2])
}

func (m *machine) isGood(e api.Event) bool {
	if e.Kind < 0 || e.Kind >= len(m.schema) || e.At < 0 || e.At > api.MaxTime {
		return false
	}
	for i, n := range []int{e.X, e.Y, e.Z} {
		if n != 0 && i >= int(m.schema[e.Kind]-'0') {
			return false
		}
	}
	return len(m.stream) == 0 || e.At >= m.stream[len(m.stream)-1].At
}

func (m *machine) feed(e api.Event) ([]api.Match, api.Errno) {
	if m.spent {
		return nil, api.ErrSpent
	}
	if !m.isGood(e) {
		return nil, api.ErrEvent
	}
	number := len(m.stream)
	stream := append(m.stream, e)
	ahead := m.flow(stream, -1)
	ahead.goOn(stand{first: number, held: [4]int{-1, -1, -1, -1}})
	behind := m.flow(stream, number)
	for _, crowd := range []map[stand]bool{m.waiting, ahead.waiting} {
		for s := range crowd {
			if kind := m.code[s.at].A; kind == api.AnyKind || kind == e.Kind {
				s.at++
				behind.goOn(s)
			}
		}
	}
	if len(behind.waiting) > m.lim.Live || len(behind.matches) > m.lim.Found {
		m.spent = true
		m.waiting = nil
		return nil, api.ErrLimit
	}
	m.stream = stream
	m.waiting = behind.waiting
	return inOrder(behind.matches), api.OK
}

func inOrder(set map[api.Match]bool) []api.Match {
	var list []api.Match
	for m := range set {
		list = append(list, m)
	}
	slices.SortFunc(list, func(a api.Match, b api.Match) int {
		return slices.Compare(append([]int{a.First}, a.Held[:]...), append([]int{b.First}, b.Held[:]...))
	})
	return list
}

// wantLikeMachine feeds a spotter and a machine the same events, and answers
// how often each error came, and how many matches.
func wantLikeMachine(t *testing.T, schema string, lim api.Limits, code []api.Ins, events []api.Event) (seen [api.ErrSpent + 1]int, found int) {
	t.Helper()
	x := mustLoad(t, schema, lim, code)
	m := &machine{schema: schema, lim: lim, code: code}
	for i, e := range events {
		got, gotErrno := x.Feed(e)
		want, wantErrno := m.feed(e)
		if gotErrno != wantErrno || !slices.Equal(got, want) || x.Live() != len(m.waiting) || x.Count() != len(m.stream) {
			t.Fatalf("%q, %v, %s: %v: event %d: %q, Live %d, Count %d, want %q, %d, %d", schema, lim, brief(code), events, i,
				told(got, gotErrno), x.Live(), x.Count(), told(want, wantErrno), len(m.waiting), len(m.stream))
		}
		seen[gotErrno]++
		found += len(got)
	}
	return seen, found
}

// programs: dice that make valid programs for the schema "201".
type programs struct{ dice }

func (p *programs) term() api.Term {
	switch p.roll(5) {
	case 0, 1:
		return api.Term{Num: []int{0, 1, 2, 3, -1, 5, 1 << 62, -1 << 63, 1<<63 - 1}[p.roll(9)]}
	case 2:
		return api.Term{Of: api.OfEvent, Field: p.roll(3)}
	}
	return api.Term{Of: api.OfHeld + p.roll(4), Field: p.roll(3)}
}

func (p *programs) test() api.Test {
	test := api.Test{Left: p.term(), Rel: p.roll(4), Right: p.term(), Arith: max(0, p.roll(6)-2)}
	if test.Arith != api.Alone {
		test.More = p.term()
	}
	return test
}

func (p *programs) ins(at int, count int) api.Ins {
	// Most targets lie behind, that there are few rounds without a Take.
	target := func() int {
		if p.roll(4) == 0 {
			return p.roll(count)
		}
		return min(at+1+p.roll(4), count-1)
	}
	op := []int{api.Take, api.Take, api.Take, api.Span, api.Only, api.Hold, api.Hold, api.Jump, api.Split, api.Split, api.Split, api.End}[p.roll(12)]
	switch op {
	case api.Take:
		return api.Ins{Op: op, A: []int{0, 0, 1, 2, 3, 4, 4, 4}[p.roll(8)]}
	case api.Span:
		return api.Ins{Op: op, A: []int{0, 1, 2, 3, 5, 1<<63 - 1}[p.roll(6)]}
	case api.Only:
		return api.Ins{Op: op, Test: p.test()}
	case api.Hold:
		return api.Ins{Op: op, A: p.roll(4)}
	case api.Jump:
		return api.Ins{Op: op, A: target()}
	case api.Split:
		return api.Ins{Op: op, A: target(), B: target()}
	}
	return api.Ins{Op: op}
}

func (p *programs) program() []api.Ins {
	for {
		code := make([]api.Ins, 2+p.roll(14))
		for i := range code {
			code[i] = p.ins(i, len(code))
		}
		if p.roll(3) > 0 {
			code[0] = api.Ins{Op: api.Take, A: 4 * p.roll(2)}
		}
		if e, _ := Valid(code); e == api.OK {
			return code
		}
	}
}

// events answers a stream in which some events are not good.
func (p *programs) events(most int) []api.Event {
	var list []api.Event
	at := p.roll(3)
	for n := p.roll(most + 1); n > 0; n-- {
		at += max(0, p.roll(5)-2)
		e := api.Event{At: at, Kind: []int{0, 0, 0, 1, 2}[p.roll(5)]}
		if e.Kind != 1 {
			e.X = []int{0, 1, 2, 3, -1, 5, 1 << 62, -1 << 63, 1<<63 - 1}[p.roll(9)]
		}
		if e.Kind == 0 {
			e.Y = p.roll(3)
		}
		switch p.roll(40) {
		case 0:
			e.At -= p.roll(6)
		case 1:
			e.Kind = p.roll(6) - 1
		case 2:
			e.Z = p.roll(2)
		}
		list = append(list, e)
	}
	return list
}

// P8, P9, P10: made programs, made streams, made limits.
func TestLikeMachine(t *testing.T) {
	p := &programs{dice(19)}
	var seen [api.ErrSpent + 1]int
	found := 0
	for i := 0; i < 60000; i++ {
		lim := wide
		if i%3 == 0 {
			lim = api.Limits{Live: 1 + p.roll(9), Found: 1 + p.roll(5)}
		}
		oneSeen, oneFound := wantLikeMachine(t, "201", lim, p.program(), p.events(12))
		for e := range seen {
			seen[e] += oneSeen[e]
		}
		found += oneFound
	}
	for _, e := range []api.Errno{api.OK, api.ErrEvent, api.ErrLimit, api.ErrSpent} {
		if seen[e] < 1000 {
			t.Errorf("the dice had the answer %d only %d times", e, seen[e])
		}
	}
	if found < 20000 {
		t.Errorf("the dice had only %d matches", found)
	}
}

// P6, P9: the programs of made patterns.
func TestPatternsLikeMachine(t *testing.T) {
	p := &programs{dice(23)}
	patterns, held := 0, 0
	for i := 0; i < 30000; i++ {
		m := &maker{dice: dice(p.roll(1 << 30)), plain: i%3 == 0, careful: i%3 == 1}
		m.whole()
		if p.roll(3) == 0 {
			m.text += "@" + p.pick("012345")
		}
		code, e := Compile("21", m.text)
		if e != api.OK {
			continue
		}
		patterns++
		var events []api.Event
		for at, n := 0, p.roll(16); n > 0; n-- {
			at += p.roll(3)
			e := api.Event{At: at, X: p.roll(6)}
			if p.roll(4) == 0 {
				e.Kind = 1
			} else {
				e.Y = p.roll(6)
			}
			events = append(events, e)
		}
		_, found := wantLikeMachine(t, "21", wide, code, events)
		if slices.ContainsFunc(code, func(x api.Ins) bool { return x.Op == api.Hold }) {
			held += found
		}
	}
	if patterns < 2000 || held < 2000 {
		t.Errorf("the dice made only %d patterns, and %d matches of such that hold", patterns, held)
	}
}

// ways: a program with very many ways to a Take and an End, that go apart and
// come together again; with holds at some places.
func ways(places int) []api.Ins {
	code := codeOf("Take 4")
	for place := range places {
		code = append(code, api.Ins{Op: api.Split, A: len(code) + 1, B: len(code) + 2}, api.Ins{Op: api.Hold, A: place})
	}
	for len(code) < api.MaxCode-4 {
		code = append(code, api.Ins{Op: api.Split, A: len(code) + 1, B: len(code) + 2})
	}
	at := len(code)
	return append(code, api.Ins{Op: api.Split, A: at + 1, B: at + 1}, api.Ins{Op: api.Split, A: at + 2, B: at + 3}, api.Ins{Op: api.Jump}, api.Ins{Op: api.End})
}

// P1: Feed ends, however many ways there are.
func TestManyWays(t *testing.T) {
	var events []api.Event
	for i := range 14 {
		events = append(events, api.Event{At: i})
	}
	for places := range api.MaxHolds + 1 {
		wantLikeMachine(t, "0", wide, ways(places), events)
	}
	// Ahead of the first Take as well.
	code := make([]api.Ins, api.MaxCode)
	for i := range code {
		code[i] = api.Ins{Op: api.Split, A: min(i+1, api.MaxCode-3), B: min(i+2, api.MaxCode-3)}
	}
	copy(code[api.MaxCode-3:], codeOf("Take 0, Jump 999, End"))
	wantLikeMachine(t, "0", wide, code, events)
	// As many Takes as there may be, at all of which a new thread waits.
	for i := range 333 {
		copy(code[3*i:], []api.Ins{{Op: api.Split, A: 3*i + 1, B: min(3*i+3, 997)}, {Op: api.Take, A: i % 2}, {Op: api.Jump, A: 999}})
	}
	wantLikeMachine(t, "0", wide, code, events)
}

// P1, P9: as many threads as may wait, for a long time, over a program as long
// as may be.
func TestLongStreams(t *testing.T) {
	x := mustLoad(t, "0", wide, ways(0))
	for i := range 200 {
		matches, e := x.Feed(api.Event{At: i})
		if e != api.OK || len(matches) != i+1 || x.Live() != i+1 || x.Count() != i+1 {
			t.Fatalf("event %d: %d matches, %d; Live %d, Count %d", i, len(matches), e, x.Live(), x.Count())
		}
	}
	if matches, e := x.Feed(api.Event{At: 200}); matches != nil || e != api.ErrLimit {
		t.Errorf("one more: %v, %d", matches, e)
	}
	x = mustLoad(t, "00", wide, codeOf("Take 0, Hold 0, Take 4, Span 3, Hold 1, Split 2 6, End"))
	for i := range 100000 {
		matches, e := x.Feed(api.Event{At: i * 1000 / 999, Kind: bit(i%3 == 0)})
		if e != api.OK || len(matches) > 4 || x.Live() > 5 || x.Count() != i+1 || len(matches) > 0 && matches[0].First < i-4 {
			t.Fatalf("event %d: %v, %d; Live %d, Count %d", i, matches, e, x.Live(), x.Count())
		}
	}
}
