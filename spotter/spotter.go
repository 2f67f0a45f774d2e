// Package spotter: patterns over a stream of events: see DOC.md.
package spotter

import (
	"spotter/api"
	"spotter/check"
	"spotter/compile"
	"spotter/kinds"
	"spotter/program"
	"spotter/threads"
)

// Spotter runs a program over a stream of events.
type Spotter struct {
	run threads.Run
}

// Check tells whether a text is a pattern for a schema (P3, P4, P5).
func Check(schema string, text string) (api.Errno, int) {
	_, e, at := check.Read(schema, text)
	return e, at
}

// Compile makes a program of a pattern (P6).
func Compile(schema string, text string) ([]api.Ins, api.Errno) {
	p, e, _ := check.Read(schema, text)
	if e != api.OK {
		return nil, e
	}
	return compile.Program(p), api.OK
}

// Valid tells whether instructions are a program (P7).
func Valid(code []api.Ins) (api.Errno, int) {
	return program.Valid(code)
}

// Load makes a spotter that runs a program (P8).
func Load(schema string, lim api.Limits, code []api.Ins) (*Spotter, api.Errno) {
	s, ok := kinds.Read(schema)
	if !ok {
		return nil, api.ErrSchema
	}
	if !threads.Allows(lim) {
		return nil, api.ErrArg
	}
	e, _ := program.Valid(code)
	if e != api.OK {
		return nil, e
	}
	return &Spotter{run: threads.Begin(s, lim, code)}, api.OK
}

// Feed takes the next event and tells the matches that end with it (P9, P10, P13).
func (x *Spotter) Feed(e api.Event) ([]api.Match, api.Errno) {
	return x.run.Feed(e)
}

// Live tells how many threads wait (P9).
func (x *Spotter) Live() int {
	return x.run.Live()
}

// Count tells how many events were taken in (P9).
func (x *Spotter) Count() int {
	return x.run.Count()
}

// Trim leaves out the instructions that lead to no match (P11).
func Trim(code []api.Ins) ([]api.Ins, api.Errno) {
	return program.Trim(code)
}

// New makes a spotter for a pattern (P12).
func New(schema string, lim api.Limits, text string) (*Spotter, api.Errno) {
	code, e := Compile(schema, text)
	if e != api.OK {
		return nil, e
	}
	return Load(schema, lim, code)
}
