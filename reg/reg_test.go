package reg_test

import (
	"testing"

	"ratemill/reg"
)

func TestErrorsAreDifferent(t *testing.T) {
	all := []error{reg.ErrKind, reg.ErrWidth, reg.ErrBusy, reg.ErrIdle}
	for i, e := range all {
		for k, f := range all {
			if e == nil || (e == f) != (i == k) {
				t.Errorf("errors %d and %d", i, k)
			}
		}
	}
}
