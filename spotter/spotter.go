// Package spotter: patterns over a stream of events: see DOC.md.
package spotter

import (
	"spotter/api"
	"spotter/check"
	"spotter/compile"
	"spotter/program"
)

// Spotter runs a program over a stream of events.
type Spotter struct{}

// Check tells whether a text is a pattern for a schema (P3, P4, P5).
func Check(schema string, text string) (api.Errno, int) {
	_, e, at := check.Read(schema, text)
	return e, at
}

// Compile makes a program of a pattern (P6).
func Compile(schema string, text string) ([]api.Ins, api.Errno) {
	p, e, _ := check.Read(schema, text)
	if e != api.OK {
		return nil, e
	}
	return compile.Program(p), api.OK
}

// Valid tells whether instructions are a program (P7).
func Valid(code []api.Ins) (api.Errno, int) {
	return program.Valid(code)
}

// Load makes a spotter that runs a program (P8).
func Load(schema string, lim api.Limits, code []api.Ins) (*Spotter, api.Errno) { return nil, api.OK }

// Feed takes the next event and tells the matches that end with it (P9, P10, P13).
func (x *Spotter) Feed(e api.Event) ([]api.Match, api.Errno) { return nil, api.OK }

// Live tells how many threads wait (P9).
func (x *Spotter) Live() int { return 0 }

// Count tells how many events were taken in (P9).
func (x *Spotter) Count() int { return 0 }

// Trim leaves out the instructions that lead to no match (P11).
func Trim(code []api.Ins) ([]api.Ins, api.Errno) { return nil, api.OK }

// New makes a spotter for a pattern (P12).
func New(schema string, lim api.Limits, text string) (*Spotter, api.Errno) { return nil, api.OK }
