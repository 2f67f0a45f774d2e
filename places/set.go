package places

import "spotter/api"

// Set: a set of places, a bit each; one more than MaxPlaces, for the end.
type Set int

func only(place int) Set {
	if place < 0 || place > api.MaxPlaces {
		return 0
	}
	return 1 << place
}

// Has tells whether a place is in the set.
func (s Set) Has(place int) bool {
	return s&only(place) != 0
}

// Count answers how many places are in the set.
func (s Set) Count() int {
	count := 0
	for i := 0; i <= api.MaxPlaces; i++ {
		if s.Has(i) {
			count++
		}
	}
	return count
}
