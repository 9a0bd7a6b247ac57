package borrow_test

import (
	"testing"

	"borrow/api"
	"borrow/borrow"
)

// P5: Quota

func TestQuotaIsSet(t *testing.T) {
	w, _ := sample(t)
	ok(t)(w.Quota("a", am(100, 200), am(300, 400)))
	ok(t)(w.Quota("x/y/z/a", am(1, 1), none))
	ok(t)(w.Quota("x/y", none, am(8, 7)))
	for _, q := range []api.Queue{
		{Nominal: am(108, 209)},
		{Path: "a", Leaf: true, Nominal: am(100, 200), Borrow: am(300, 400)},
		{Path: "x", Nominal: am(8, 9), Borrow: am(5, 6)},
		{Path: "x/a", Leaf: true, Nominal: am(7, 8)},
		{Path: "x/y", Nominal: am(1, 1), Borrow: am(8, 7)},
		{Path: "x/y/z", Nominal: am(1, 1), Borrow: am(9, 9)},
		{Path: "x/y/z/a", Leaf: true, Nominal: am(1, 1)},
		{Path: "x/y/z/c"},
	} {
		told(t, w, q)
	}
}

// TestQuotaOfNothingAndOfMost: set, set again to the same, and back.
func TestQuotaOfNothingAndOfMost(t *testing.T) {
	w := fresh(t)
	ok(t)(w.Cohort("x", am(3, 3)))
	ok(t)(w.Leaf("x/a", am(4, 4), am(5, 5)))
	for _, amount := range []api.Amount{none, am(1, 0), am(0, 1), am(999, 1000), plenty, plenty, none, none} {
		ok(t)(w.Quota("x", none, amount))
		ok(t)(w.Quota("x/a", amount, am(7, 7)))
		told(t, w, api.Queue{Path: "x", Nominal: amount, Borrow: amount})
		told(t, w, api.Queue{Path: "x/a", Leaf: true, Nominal: amount, Borrow: am(7, 7)})
		ok(t)(w.Quota("x/a", am(8, 8), amount))
		told(t, w, api.Queue{Path: "x/a", Leaf: true, Nominal: am(8, 8), Borrow: amount})
		told(t, w, api.Queue{Nominal: am(8, 8)})
	}
}

// refusedQuotas is what cannot be set in the tower of withWork, whatever limits say.
func refusedQuotas(t *testing.T, w *borrow.Tower) {
	t.Helper()
	for _, amount := range append(noAmounts(), none, am(1, 1), plenty) {
		for _, text := range []string{"/", "a/", "x/", "x//a", "A", "abcde", " a", "a/b/c/d/e/"} {
			no(t, api.ErrPath)(w.Quota(text, amount, none))
			no(t, api.ErrPath)(w.Quota(text, none, amount))
		}
		no(t, api.ErrRoot)(w.Quota("", amount, none))
		no(t, api.ErrRoot)(w.Quota("", none, amount))
		for _, path := range []string{"b", "y", "x/b", "a/a", "x/y/z/a/a", "x/y/z/c/a", "a/b/c/d/e", "b/c/d/e/f/g"} {
			no(t, api.ErrNone)(w.Quota(path, amount, none))
			no(t, api.ErrNone)(w.Quota(path, none, amount))
		}
	}
	for _, text := range noPaths() {
		no(t, api.ErrPath)(w.Quota(text, none, none))
	}
	for _, amount := range noAmounts() {
		for _, path := range []string{"a", "x", "x/a", "x/y/z/a", "x/y/z/c"} { // also where a limit would be broken
			no(t, api.ErrArg)(w.Quota(path, amount, none))
			no(t, api.ErrArg)(w.Quota(path, none, amount))
			no(t, api.ErrArg)(w.Quota(path, amount, amount))
		}
	}
	for _, nominal := range []api.Amount{am(1, 0), am(0, 1), am(1, 1), am(17, 28), am(10, 20), plenty} { // the sums of x and of x/y, too
		for _, path := range []string{"x", "x/y", "x/y/z", "x/y/z/c"} {
			no(t, api.ErrArg)(w.Quota(path, nominal, none))
			no(t, api.ErrArg)(w.Quota(path, nominal, plenty))
		}
	}
}

func TestQuotaRefused(t *testing.T) {
	w, there := withWork(t)
	before := picture(w, there)
	refusedQuotas(t, w)
	if after := picture(w, there); after != before {
		t.Errorf("P1: what was refused changed the tower from\n%s to\n%s", before, after)
	}
	no(t, api.ErrRoot)(fresh(t).Quota("", none, none))
}

// TestArgComesAheadOfOver: where both apply.
func TestArgComesAheadOfOver(t *testing.T) {
	w := fresh(t)
	ok(t)(w.Cohort("x", am(5, 5)))
	ok(t)(w.Leaf("x/a", am(5, 5), am(5, 5)))
	ok(t)(w.Leaf("b", am(5, 5), none))
	submits(t, w, "x/a", am(10, 10), 1, "+1")
	for _, nominal := range []api.Amount{am(-1, 0), am(0, -1), am(1001, 0), am(1, 0), am(0, 1)} {
		no(t, api.ErrArg)(w.Quota("x", nominal, none))
	}
	no(t, api.ErrArg)(w.Quota("x/a", am(0, -1), none))
	no(t, api.ErrArg)(w.Quota("x/a", none, am(-1, 0)))
	no(t, api.ErrArg)(w.Quota("x", none, am(0, 1001)))
	no(t, api.ErrOver)(w.Quota("x", none, none))
	no(t, api.ErrOver)(w.Quota("x/a", none, none))
	uses(t, w, "x", am(10, 10))
}

// TestQuotaChangesOneQueue: not those above, beside and below it, whose names may be the same.
func TestQuotaChangesOneQueue(t *testing.T) {
	paths := []string{"x", "x/x", "y", "x/x/x", "xx"}
	for _, changed := range paths {
		w := fresh(t)
		for _, path := range paths {
			ok(t)(w.Cohort(path, am(1, 2)))
		}
		ok(t)(w.Quota(changed, none, am(3, 4)))
		for _, path := range paths {
			want := api.Queue{Path: path, Borrow: am(1, 2)}
			if path == changed {
				want.Borrow = am(3, 4)
			}
			told(t, w, want)
		}
	}
}
