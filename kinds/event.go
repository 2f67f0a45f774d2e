package kinds

import "spotter/api"

// IsGood tells whether an event is good for the schema.
func (s Schema) IsGood(e api.Event) bool {
	if !s.Has(e.Kind) || e.At < 0 || e.At > api.MaxTime {
		return false
	}
	for field := api.FieldX; field <= api.FieldZ; field++ {
		if !s.HasField(e.Kind, field) && Value(e, field) != 0 {
			return false
		}
	}
	return true
}

// Value answers a field of an event.
func Value(e api.Event, field int) int {
	switch field {
	case api.FieldT:
		return e.At
	case api.FieldX:
		return e.X
	case api.FieldY:
		return e.Y
	case api.FieldZ:
		return e.Z
	}
	return 0
}
