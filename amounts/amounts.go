// Package amounts reckons with amounts as wholes.
package amounts

import "borrow/api"

// Allowed tells whether an amount may be handed in.
func Allowed(a api.Amount) bool { return clamp(a) == a }

// Add is both amounts together.
func Add(a, b api.Amount) api.Amount {
	for i := range a {
		a[i] += b[i]
	}
	return a
}

// clamp is the allowed amount that is nearest.
func clamp(a api.Amount) api.Amount {
	for i, units := range a {
		a[i] = max(0, min(units, api.MaxUnits))
	}
	return a
}
