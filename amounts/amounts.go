// Package amounts reckons with amounts as wholes.
package amounts

import "borrow/api"

// Allowed tells whether an amount may be handed in.
func Allowed(a api.Amount) bool { return clamp(a) == a }

// Add is both amounts together.
func Add(a, b api.Amount) api.Amount {
	for i := range a {
		a[i] += b[i]
	}
	return a
}

// Above is by how much the first amount is above the second, of each resource;
// nothing, where it is not.
func Above(a, b api.Amount) api.Amount {
	for i := range a {
		a[i] = max(0, a[i]-b[i])
	}
	return a
}

// Least is what all these amounts have, of each resource.
func Least(a api.Amount, others ...api.Amount) api.Amount {
	for _, other := range others {
		for i := range a {
			a[i] = min(a[i], other[i])
		}
	}
	return a
}

// clamp is the allowed amount that is nearest.
func clamp(a api.Amount) api.Amount {
	for i, units := range a {
		a[i] = max(0, min(units, api.MaxUnits))
	}
	return a
}
