package mach

import (
	"testing"

	"qloom/api"
)

// A panic that no fault was given up with must not become an answer.
func TestOnlyRefusalsAreCaught(t *testing.T) {
	want := api.Fault{Code: api.ErrText, At: 3}
	if got := faultOf(refusal(want)); got != want {
		t.Errorf("a refusal: %v, want %v", got, want)
	}
	for _, cause := range []any{"a mistake", 7, want} {
		func() {
			defer func() {
				if got := recover(); got != cause {
					t.Errorf("panic with %v: %v", cause, got)
				}
			}()
			faultOf(cause)
		}()
	}
}
