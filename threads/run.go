// Package threads: a program that runs over a stream of events by threads.
package threads

import (
	"spotter/api"
	"spotter/kinds"
	"spotter/program"
)

// Run: what is to be known of a program and of the stream so far. No list of it
// is ever written into: each event that is taken in brings a new one.
type Run struct {
	schema  kinds.Schema
	lim     api.Limits
	code    []api.Ins
	begins  []int // the Takes at which new threads wait
	waiting []thread
	count   int // of the events that were taken in
	last    int // the time of the last of them; 0 suits ahead of the first
	spent   bool
}

// Allows tells whether limits may be.
func Allows(lim api.Limits) bool {
	return lim.Live >= 1 && lim.Live <= api.MaxLive && lim.Found >= 1 && lim.Found <= api.MaxFound
}

// Begin answers the run of a valid program at the beginning of a stream.
func Begin(schema kinds.Schema, lim api.Limits, code []api.Ins) Run {
	var own []api.Ins
	for i := 0; i < len(code); i++ {
		own = append(own, code[i])
	}
	return Run{schema: schema, lim: lim, code: own, begins: program.Begins(own)}
}

// Live answers how many threads wait behind the event last taken in.
func (r *Run) Live() int {
	return len(r.waiting)
}

// Count answers how many events were taken in.
func (r *Run) Count() int {
	return r.count
}

// Feed takes an event in and answers the matches that end with it, or an error.
func (r *Run) Feed(e api.Event) ([]api.Match, api.Errno) {
	if r.spent {
		return nil, api.ErrSpent
	}
	if e.At < r.last || !r.schema.IsGood(e) {
		return nil, api.ErrEvent
	}
	s := r.stepOver(e)
	if s.isOver() {
		r.spent = true
		r.waiting = nil
		return nil, api.ErrLimit
	}
	r.waiting = s.waiting.threads
	r.count++
	r.last = e.At
	return s.matches(), api.OK
}

// stepOver answers what an event makes of the threads that wait and of new ones.
func (r *Run) stepOver(e api.Event) step {
	now := numbered{number: r.count, event: e}
	s := newStep(r.code, r.lim, now)
	for i := 0; i < len(r.waiting); i++ {
		s.goOn(r.waiting[i])
	}
	for i := 0; i < len(r.begins); i++ {
		t := newThread(r.begins[i], now)
		s.goOn(t)
	}
	return s
}
