package borrow_test

import (
	"testing"

	"borrow/api"
)

// P9, of which Queue

func TestQueueRefused(t *testing.T) {
	w, _ := sample(t)
	for _, text := range noPaths() {
		untold(t, w, text, api.ErrPath)
	}
	for _, path := range []string{"b", "xy", "y", "x/b", "a/b", "a/a", "x/x", "a/x", "x/y/z/a/b", "x/y/z/c/a", "b/c/d/e/f/g", "abcd/abcd/abcd/abcd/abcd"} {
		untold(t, w, path, api.ErrNone)
	}
}

func TestQueueTellsEachQueue(t *testing.T) {
	w, _ := sample(t)
	for _, q := range []api.Queue{
		{Nominal: am(18, 30)},
		{Path: "a", Leaf: true, Nominal: am(1, 2), Borrow: am(3, 4)},
		{Path: "x", Nominal: am(17, 28), Borrow: am(5, 6)},
		{Path: "x/a", Leaf: true, Nominal: am(7, 8)},
		{Path: "x/y", Nominal: am(10, 20)},
		{Path: "x/y/z", Nominal: am(10, 20), Borrow: am(9, 9)},
		{Path: "x/y/z/a", Leaf: true, Nominal: am(10, 20), Borrow: am(30, 40)},
		{Path: "x/y/z/c"},
	} {
		told(t, w, q)
		told(t, w, q)
	}
}

// TestNominalGrowsWithTheLeaves: a cohort's nominal is that of the leaves that are there by then, and of no cohort's borrow.
func TestNominalGrowsWithTheLeaves(t *testing.T) {
	w := fresh(t)
	ok(t)(w.Cohort("x", am(1000, 1000)))
	ok(t)(w.Cohort("x/y", am(1000, 1000)))
	told(t, w, api.Queue{Path: "x", Borrow: am(1000, 1000)})
	ok(t)(w.Leaf("x/b", am(600, 1), am(1000, 1000)))
	told(t, w, api.Queue{Path: "x", Nominal: am(600, 1), Borrow: am(1000, 1000)})
	ok(t)(w.Leaf("x/y/a", am(700, 2), am(1000, 1000)))
	told(t, w, api.Queue{Path: "x", Nominal: am(1300, 3), Borrow: am(1000, 1000)})
	told(t, w, api.Queue{Path: "x/y", Nominal: am(700, 2), Borrow: am(1000, 1000)})
	ok(t)(w.Leaf("a", am(1000, 4), none))
	told(t, w, api.Queue{Nominal: am(2300, 7)})
	told(t, w, api.Queue{Path: "x", Nominal: am(1300, 3), Borrow: am(1000, 1000)})
}
