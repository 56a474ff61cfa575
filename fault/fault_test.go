package fault

import (
	"errors"
	"testing"
)

func TestEachKindIsItsOwn(t *testing.T) {
	kinds := []error{Text, Long, Syntax, Range, Count, Unsupported, Deep, Big, Tree, Schema}
	for i, kind := range kinds {
		err := New(kind, i+3)
		for j, other := range kinds {
			if errors.Is(err, other) != (i == j) {
				t.Errorf("%q is %q: %v", err, other, i != j)
			}
		}
		var f *Fault
		if !errors.As(err, &f) || f.At != i+3 {
			t.Errorf("%q has no place, or a wrong one", err)
		}
	}
}

func TestMessage(t *testing.T) {
	if got := New(Syntax, 12).Error(); got != "no pattern at 12" {
		t.Errorf("got %q", got)
	}
}
