package borrow_test

import (
	"testing"

	"borrow/api"
)

// P9

func TestQueueRefused(t *testing.T) {
	w, _ := sample(t)
	for _, text := range noPaths() {
		untold(t, w, text, api.ErrPath)
	}
	for _, path := range []string{"b", "xy", "y", "x/b", "a/b", "a/a", "x/x", "a/x", "x/y/z/a/b", "x/y/z/c/a", "b/c/d/e/f/g", "abcd/abcd/abcd/abcd/abcd"} {
		untold(t, w, path, api.ErrNone)
	}
}

func TestQueueTellsEachQueue(t *testing.T) {
	w, _ := sample(t)
	for _, q := range []api.Queue{
		{Nominal: am(18, 30)},
		{Path: "a", Leaf: true, Nominal: am(1, 2), Borrow: am(3, 4)},
		{Path: "x", Nominal: am(17, 28), Borrow: am(5, 6)},
		{Path: "x/a", Leaf: true, Nominal: am(7, 8)},
		{Path: "x/y", Nominal: am(10, 20)},
		{Path: "x/y/z", Nominal: am(10, 20), Borrow: am(9, 9)},
		{Path: "x/y/z/a", Leaf: true, Nominal: am(10, 20), Borrow: am(30, 40)},
		{Path: "x/y/z/c"},
	} {
		told(t, w, q)
		told(t, w, q)
	}
}

// TestNominalGrowsWithTheLeaves: a cohort's nominal is that of the leaves that are there by then, and of no cohort's borrow.
func TestNominalGrowsWithTheLeaves(t *testing.T) {
	w := fresh(t)
	ok(t)(w.Cohort("x", am(1000, 1000)))
	ok(t)(w.Cohort("x/y", am(1000, 1000)))
	told(t, w, api.Queue{Path: "x", Borrow: am(1000, 1000)})
	ok(t)(w.Leaf("x/b", am(600, 1), am(1000, 1000)))
	told(t, w, api.Queue{Path: "x", Nominal: am(600, 1), Borrow: am(1000, 1000)})
	ok(t)(w.Leaf("x/y/a", am(700, 2), am(1000, 1000)))
	told(t, w, api.Queue{Path: "x", Nominal: am(1300, 3), Borrow: am(1000, 1000)})
	told(t, w, api.Queue{Path: "x/y", Nominal: am(700, 2), Borrow: am(1000, 1000)})
	ok(t)(w.Leaf("a", am(1000, 4), none))
	told(t, w, api.Queue{Nominal: am(2300, 7)})
	told(t, w, api.Queue{Path: "x", Nominal: am(1300, 3), Borrow: am(1000, 1000)})
}

// TestUsageIsSummedUp: of each queue from the leaf to the root, of admitted workloads alone.
func TestUsageIsSummedUp(t *testing.T) {
	w, _ := sample(t)
	submits(t, w, "a", am(1, 2), 1, "+1")
	submits(t, w, "x/a", am(3, 1), 2, "+2")
	submits(t, w, "x/a", am(4, 0), 3, "+3")
	submits(t, w, "x/y/z/a", am(2, 20), 4, "+4")
	submits(t, w, "x/y/z/a", am(0, 5), 5, "")
	submits(t, w, "x/a", am(1, 0), 6, "")
	submits(t, w, "x/y/z/a", am(9, 0), 7, "")
	for _, q := range []api.Queue{
		{Nominal: am(18, 30), Usage: am(10, 23)},
		{Path: "a", Leaf: true, Nominal: am(1, 2), Borrow: am(3, 4), Usage: am(1, 2)},
		{Path: "x", Nominal: am(17, 28), Borrow: am(5, 6), Usage: am(9, 21)},
		{Path: "x/a", Leaf: true, Nominal: am(7, 8), Usage: am(7, 1), Waiting: []int{6}},
		{Path: "x/y", Nominal: am(10, 20), Usage: am(2, 20)},
		{Path: "x/y/z", Nominal: am(10, 20), Borrow: am(9, 9), Usage: am(2, 20)},
		{Path: "x/y/z/a", Leaf: true, Nominal: am(10, 20), Borrow: am(30, 40), Usage: am(2, 20), Waiting: []int{5, 7}},
		{Path: "x/y/z/c"},
	} {
		told(t, w, q)
		told(t, w, q)
	}
}

func TestWorkTellsEachWorkload(t *testing.T) {
	w, _ := withWork(t)
	submits(t, w, "x/a", none, 5, "+5")
	submits(t, w, "x/a", am(1000, 1000), 6, "")
	for range 2 {
		works(t, w, 1, api.Work{Path: "a", Demand: am(1, 1), Admitted: true})
		works(t, w, 2, api.Work{Path: "a", Demand: am(5, 0)})
		works(t, w, 3, api.Work{Path: "x/y/z/a", Demand: am(8, 3), Admitted: true})
		works(t, w, 4, api.Work{Path: "x/y/z/a", Demand: am(0, 28)})
		works(t, w, 5, api.Work{Path: "x/a", Admitted: true})
		works(t, w, 6, api.Work{Path: "x/a", Demand: plenty})
	}
}

func TestWorkFollowsWhatBecomesOfIt(t *testing.T) {
	w := lent(t)
	submits(t, w, "b", am(20, 0), 1, "+1")
	works(t, w, 1, api.Work{Path: "b", Demand: am(20, 0), Admitted: true})
	submits(t, w, "a", am(10, 0), 2, "-1+2")
	works(t, w, 1, api.Work{Path: "b", Demand: am(20, 0)})
	uses(t, w, "b", none, 1)
	does(t, "+1")(w.Finish(2))
	works(t, w, 1, api.Work{Path: "b", Demand: am(20, 0), Admitted: true})
	uses(t, w, "b", am(20, 0))
	ok(t)(w.Finish(1))
	unknown(t, w, 1, 2)
}

func TestWorkRefused(t *testing.T) {
	w, _ := withWork(t)
	for _, number := range append(noNumbers(), 5, 6, 24, 25) {
		if got, e := w.Work(number); got != (api.Work{}) || e != api.ErrWork {
			t.Errorf("P9: Work(%d) = %+v, %d, want nothing, ErrWork", number, got, e)
		}
	}
}
