package kinds

import (
	"testing"

	"spotter/api"
)

func TestReadTakesOneToFourDigits(t *testing.T) {
	for _, text := range []string{"0", "3", "12", "012", "0123", "3333"} {
		if _, ok := Read(text); !ok {
			t.Errorf("Read(%q): not a schema", text)
		}
	}
}

func TestReadTakesNothingElse(t *testing.T) {
	for _, text := range []string{"", "4", "/", "03331", "1 ", " 1", "1\n", "x", "1a", "-1", "\x00", "11\x00", "\xb9", "²"} {
		if s, ok := Read(text); ok || s != (Schema{}) {
			t.Errorf("Read(%q) = %v, %v", text, s, ok)
		}
	}
}

func TestHas(t *testing.T) {
	s, _ := Read("10")
	for kind, want := range map[int]bool{-1: false, 0: true, 1: true, 2: false, 3: false, api.AnyKind: false, 1 << 62: false} {
		if s.Has(kind) != want {
			t.Errorf("Has(%d) = %v", kind, !want)
		}
	}
}

func TestHasField(t *testing.T) {
	s, _ := Read("0123")
	for kind := 0; kind < api.MaxKinds; kind++ {
		for field := api.FieldT; field <= api.FieldZ; field++ {
			if got := s.HasField(kind, field); got != (field <= kind) {
				t.Errorf("HasField(%d, %d) = %v", kind, field, got)
			}
		}
	}
	if !s.HasField(api.AnyKind, api.FieldT) || s.HasField(api.AnyKind, api.FieldX) {
		t.Error("any kind has its time, and nothing else")
	}
	if s.HasField(3, 4) || s.HasField(3, -1) {
		t.Error("a field that is none")
	}
}
