// Package check: whether a text is a pattern for a schema, and small enough.
package check

import (
	"spotter/api"
	"spotter/kinds"
	"spotter/pattern"
)

// Read answers the pattern that a text is for a schema, or the first error
// that applies and its place.
func Read(schema string, text string) (pattern.Pattern, api.Errno, int) {
	if len(text) > api.MaxText {
		return pattern.Pattern{}, api.ErrLong, 0
	}
	s, ok := kinds.Read(schema)
	if !ok {
		return pattern.Pattern{}, api.ErrSchema, 0
	}
	p, ok, at := pattern.Read(text)
	if !ok {
		return pattern.Pattern{}, api.ErrSyntax, at
	}
	wrong := firstWrong(s, p)
	if wrong < len(p.Steps) {
		return pattern.Pattern{}, api.ErrType, p.Steps[wrong].At
	}
	if isLarge(p) {
		return pattern.Pattern{}, api.ErrLarge, 0
	}
	return p, api.OK, 0
}
