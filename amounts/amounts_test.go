package amounts

import (
	"math"
	"testing"

	"borrow/api"
)

func TestAllowed(t *testing.T) {
	for _, c := range []struct {
		amount api.Amount
		want   bool
	}{
		{api.Amount{0, 0}, true},
		{api.Amount{api.MaxUnits, api.MaxUnits}, true},
		{api.Amount{1, 999}, true},
		{api.Amount{-1, 0}, false},
		{api.Amount{0, -1}, false},
		{api.Amount{api.MaxUnits + 1, 0}, false},
		{api.Amount{0, api.MaxUnits + 1}, false},
		{api.Amount{math.MinInt, 0}, false},
		{api.Amount{0, math.MaxInt}, false},
	} {
		if got := Allowed(c.amount); got != c.want {
			t.Errorf("Allowed(%v) = %v", c.amount, got)
		}
	}
}

func TestAdd(t *testing.T) {
	a, b := api.Amount{1, 20}, api.Amount{300, 4000}
	if got := Add(a, b); got != (api.Amount{301, 4020}) {
		t.Errorf("Add(%v, %v) = %v", a, b, got)
	}
	if a != (api.Amount{1, 20}) || b != (api.Amount{300, 4000}) {
		t.Errorf("Add changed what it was given: %v, %v", a, b)
	}
}
