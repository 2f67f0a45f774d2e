// Package kinds: the kinds of events that a schema tells, and their fields.
package kinds

import "spotter/api"

// Schema: how many kinds there are, and how many fields each has beside its time.
type Schema struct {
	count  int
	fields [api.MaxKinds]int
}

// Read answers the schema that a text is, and whether it is one.
func Read(text string) (Schema, bool) {
	var s Schema
	if len(text) < 1 || len(text) > api.MaxKinds {
		return Schema{}, false
	}
	for i := 0; i < len(text) && i < len(s.fields); i++ {
		if text[i] < '0' || text[i] > '0'+api.MaxFields {
			return Schema{}, false
		}
		s.fields[i] = int(text[i] - '0')
	}
	s.count = len(text)
	return s, true
}

// Has tells whether events of a kind are in the schema.
func (s Schema) Has(kind int) bool {
	return kind >= 0 && kind < s.count
}

// HasField tells whether every event of a kind (or of AnyKind) has a field.
func (s Schema) HasField(kind int, field int) bool {
	if field == api.FieldT {
		return true
	}
	if !s.Has(kind) || kind >= len(s.fields) {
		return false
	}
	return field >= api.FieldX && field <= s.fields[kind]
}
