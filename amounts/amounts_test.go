package amounts

import (
	"math"
	"testing"

	"borrow/api"
)

func TestAllowed(t *testing.T) {
	for _, c := range []struct {
		amount api.Amount
		want   bool
	}{
		{api.Amount{0, 0}, true},
		{api.Amount{api.MaxUnits, api.MaxUnits}, true},
		{api.Amount{1, 999}, true},
		{api.Amount{-1, 0}, false},
		{api.Amount{0, -1}, false},
		{api.Amount{api.MaxUnits + 1, 0}, false},
		{api.Amount{0, api.MaxUnits + 1}, false},
		{api.Amount{math.MinInt, 0}, false},
		{api.Amount{0, math.MaxInt}, false},
	} {
		if got := Allowed(c.amount); got != c.want {
			t.Errorf("Allowed(%v) = %v", c.amount, got)
		}
	}
}

func TestAdd(t *testing.T) {
	a, b := api.Amount{1, 20}, api.Amount{300, 4000}
	if got := Add(a, b); got != (api.Amount{301, 4020}) {
		t.Errorf("Add(%v, %v) = %v", a, b, got)
	}
	if a != (api.Amount{1, 20}) || b != (api.Amount{300, 4000}) {
		t.Errorf("Add changed what it was given: %v, %v", a, b)
	}
}

func TestAbove(t *testing.T) {
	for _, c := range []struct{ a, b, want api.Amount }{
		{api.Amount{5, 7}, api.Amount{3, 7}, api.Amount{2, 0}},
		{api.Amount{5, 7}, api.Amount{6, 1}, api.Amount{0, 6}},
		{api.Amount{0, 0}, api.Amount{1000, 1000}, api.Amount{0, 0}},
		{api.Amount{25000, 1}, api.Amount{0, 0}, api.Amount{25000, 1}},
	} {
		if got := Above(c.a, c.b); got != c.want {
			t.Errorf("Above(%v, %v) = %v, want %v", c.a, c.b, got, c.want)
		}
	}
}

func TestLeast(t *testing.T) {
	a, b, c := api.Amount{5, 7}, api.Amount{3, 8}, api.Amount{4, 0}
	if got := Least(a); got != a {
		t.Errorf("Least(%v) = %v", a, got)
	}
	if got := Least(a, b); got != (api.Amount{3, 7}) {
		t.Errorf("Least(%v, %v) = %v", a, b, got)
	}
	if got := Least(a, b, c); got != (api.Amount{3, 0}) {
		t.Errorf("Least(%v, %v, %v) = %v", a, b, c, got)
	}
	if a != (api.Amount{5, 7}) || b != (api.Amount{3, 8}) {
		t.Errorf("Least changed what it was given: %v, %v", a, b)
	}
}
