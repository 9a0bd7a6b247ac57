package borrow_test

import (
	"testing"

	"borrow/api"
	"borrow/borrow"
)

// P5: what would break a limit is not done

// over tries changes that would break a limit, and looks whether all is as it was.
func over(t *testing.T, w *borrow.Tower, paths []string, changes ...func() ([]api.Event, api.Errno)) {
	t.Helper()
	before := picture(w, paths)
	for i, change := range changes {
		no(t, api.ErrOver)(change())
		if after := picture(w, paths); after != before {
			t.Fatalf("P1: change %d was refused, and made of the tower\n%s\nthis:\n%s", i, before, after)
		}
	}
}

// with is an amount with so many units of one resource.
func with(resource, units int, others api.Amount) api.Amount {
	others[resource] = units
	return others
}

// used is a tower in which x/y/z/a has 20 of either resource and uses 25 of one; its limit and those of its cohorts are
// plenty, and the root has enough.
func used(t *testing.T, resource int) (*borrow.Tower, []string) {
	t.Helper()
	w := fresh(t)
	for _, path := range []string{"x", "x/y", "x/y/z", "o"} {
		ok(t)(w.Cohort(path, plenty))
	}
	ok(t)(w.Leaf("x/y/z/a", am(20, 20), plenty))
	ok(t)(w.Leaf("o/b", am(10, 10), none))
	submits(t, w, "x/y/z/a", of(resource, 25), 1, "+1")
	submits(t, w, "x/y/z/a", plenty, 2, "")
	submits(t, w, "x/y/z/a", none, 3, "")
	submits(t, w, "o/b", plenty, 4, "")
	return w, []string{"", "x", "x/y", "x/y/z", "x/y/z/a", "o", "o/b", "a", "o/a", "o/y", "y", "z", "b"}
}

// TestQuotaJustAtTheLimit: of the queue itself, by its borrow, or a leaf's nominal, or both.
func TestQuotaJustAtTheLimit(t *testing.T) {
	for resource := range 2 {
		for _, path := range []string{"x", "x/y", "x/y/z", "x/y/z/a"} {
			w, there := used(t, resource)
			nominal := none
			if path == "x/y/z/a" {
				nominal = am(20, 20)
			}
			over(t, w, there,
				func() ([]api.Event, api.Errno) { return w.Quota(path, nominal, with(resource, 4, plenty)) },
				func() ([]api.Event, api.Errno) { return w.Quota(path, nominal, with(resource, 0, plenty)) })
			ok(t)(w.Quota(path, nominal, of(resource, 5)))
			told(t, w, api.Queue{Path: path, Leaf: nominal != none, Nominal: am(20, 20), Borrow: of(resource, 5), Usage: of(resource, 25), Waiting: lineOf(path)})
		}
		w, there := used(t, resource)
		over(t, w, there,
			func() ([]api.Event, api.Errno) { return w.Quota("x/y/z/a", of(resource, 19), of(resource, 5)) },
			func() ([]api.Event, api.Errno) { return w.Quota("x/y/z/a", of(resource, 24), none) },
			func() ([]api.Event, api.Errno) { return w.Quota("x/y/z/a", of(1-resource, 1000), of(1-resource, 1000)) })
		ok(t)(w.Quota("x/y/z/a", of(resource, 19), of(resource, 6)))
		ok(t)(w.Quota("x/y/z/a", of(resource, 25), none))
		ok(t)(w.Quota("x/y/z/a", of(resource, 15), of(resource, 10)))
		over(t, w, there, // the root would have 24
			func() ([]api.Event, api.Errno) { return w.Quota("x/y/z/a", of(resource, 14), plenty) },
			func() ([]api.Event, api.Errno) { return w.Quota("o/b", with(resource, 9, plenty), plenty) })
		told(t, w, api.Queue{Path: "x/y/z/a", Leaf: true, Nominal: of(resource, 15), Borrow: of(resource, 10), Usage: of(resource, 25), Waiting: []int{2, 3}})
	}
}

// lineOf is who waits in a queue of used.
func lineOf(path string) []int {
	if path == "x/y/z/a" {
		return []int{2, 3}
	}
	return nil
}

// lender is a tower in which x/y/z/a has 20 and uses 25 of one resource, and of its cohorts only that at the path may not
// borrow (the root never may); in that a leaf l has 10, and a leaf m has so much. Of what they have, 5 are used.
func lender(t *testing.T, path string, resource, ofM int) (w *borrow.Tower, l string, there []string) {
	t.Helper()
	w = fresh(t)
	ok(t)(w.Cohort("o", plenty))
	ok(t)(w.Cohort("o/p", none))
	for _, cohort := range []string{"x", "x/y", "x/y/z"} {
		if cohort == path {
			ok(t)(w.Cohort(cohort, none))
		} else {
			ok(t)(w.Cohort(cohort, plenty))
		}
	}
	ok(t)(w.Leaf("x/y/z/a", am(20, 20), plenty))
	start := path + "/"
	if path == "" {
		start = ""
	} else {
		ok(t)(w.Leaf("r", plenty, none))
	}
	ok(t)(w.Leaf(start+"l", am(10, 10), none))
	ok(t)(w.Leaf(start+"m", of(resource, ofM), none))
	submits(t, w, "x/y/z/a", of(resource, 25), 1, "+1")
	submits(t, w, "x/y/z/a", plenty, 2, "")
	submits(t, w, "x/y/z/a", none, 3, "")
	return w, start + "l", []string{"", "x", "x/y", "x/y/z", "x/y/z/a", "r", "o", "o/p", start + "l", start + "m", "l", "o/l", "o/p/l"}
}

// TestLessToLendJustAtTheLimit: a leaf that uses nothing gets less, or is no more, while others use what it has, in a
// cohort or in the root.
func TestLessToLendJustAtTheLimit(t *testing.T) {
	for resource := range 2 {
		for _, path := range []string{"", "x", "x/y", "x/y/z"} {
			w, l, there := lender(t, path, resource, 0)
			over(t, w, there,
				func() ([]api.Event, api.Errno) { return w.Remove(l) },
				func() ([]api.Event, api.Errno) { return w.Quota(l, with(resource, 4, plenty), plenty) },
				func() ([]api.Event, api.Errno) { return w.Quota(l, with(resource, 0, plenty), none) })
			ok(t)(w.Quota(l, of(resource, 5), none))
			told(t, w, api.Queue{Path: l, Leaf: true, Nominal: of(resource, 5)})
			w, l, there = lender(t, path, resource, 4)
			over(t, w, there, func() ([]api.Event, api.Errno) { return w.Remove(l) })
			over(t, w, there, func() ([]api.Event, api.Errno) { return w.Quota(l, none, none) })
			w, l, _ = lender(t, path, resource, 5)
			ok(t)(w.Remove(l))
			untold(t, w, l, api.ErrNone)
			uses(t, w, path, of(resource, 25))
			if t.Failed() {
				t.Fatalf("P5: so it is with the limit of %q, of resource %d", path, resource)
			}
		}
	}
}

// TestMoveOnTheOldWay: the cohorts in which it hung have less then, the root as much as it had.
func TestMoveOnTheOldWay(t *testing.T) {
	for resource := range 2 {
		for _, path := range []string{"x", "x/y", "x/y/z"} {
			w, l, there := lender(t, path, resource, 4)
			over(t, w, there,
				func() ([]api.Event, api.Errno) { return w.Move(l, "") },
				func() ([]api.Event, api.Errno) { return w.Move(l, "o") },
				func() ([]api.Event, api.Errno) { return w.Move(l, "o/p") })
			w, l, _ = lender(t, path, resource, 5)
			ok(t)(w.Move(l, "o/p"))
			told(t, w, api.Queue{Path: "o/p/l", Leaf: true, Nominal: am(10, 10)})
			untold(t, w, l, api.ErrNone)
			if t.Failed() {
				t.Fatalf("P5: so it is with the limit of %q, of resource %d", path, resource)
			}
		}
		w, l, _ := lender(t, "", resource, 0)
		ok(t)(w.Move(l, "o/p"))
		ok(t)(w.Move("o/p/l", "x/y"))
		ok(t)(w.Move("x/y/l", "x/y/z"))
	}
}

// TestMoveWithinACohort: below which it lies before as behind the change: that has what it had.
func TestMoveWithinACohort(t *testing.T) {
	for resource := range 2 {
		w, _, there := lender(t, "x", resource, 0)
		ok(t)(w.Quota("x/l", am(5, 5), none)) // x is at its limit
		ok(t)(w.Move("x/l", "x/y"))
		ok(t)(w.Move("x/y/l", "x/y/z"))
		ok(t)(w.Move("x/y/z/l", "x"))
		ok(t)(w.Move("x/y/z/a", "x"))
		told(t, w, api.Queue{Path: "x/a", Leaf: true, Nominal: am(20, 20), Borrow: plenty, Usage: of(resource, 25), Waiting: []int{2, 3}})
		over(t, w, append(there, "x/a"), func() ([]api.Event, api.Errno) { return w.Move("x/l", "") })
	}
}

// TestMoveOnTheNewWay: the cohorts into which it comes have what it brings, and use what it uses.
func TestMoveOnTheNewWay(t *testing.T) {
	for resource := range 2 {
		for _, tight := range []string{"n", "n/m"} {
			for _, moved := range []string{"x/y/z/a", "x/y/z"} {
				for units, want := range map[int]api.Errno{4: api.ErrOver, 5: api.OK} {
					w, there := used(t, resource)
					for _, path := range []string{"n", "n/m"} {
						if path == tight {
							ok(t)(w.Cohort(path, with(resource, units, plenty)))
						} else {
							ok(t)(w.Cohort(path, plenty))
						}
					}
					if want == api.OK {
						ok(t)(w.Move(moved, "n/m"))
						uses(t, w, "n", of(resource, 25))
						uses(t, w, "x", none)
					} else {
						over(t, w, append(there, "n", "n/m"), func() ([]api.Event, api.Errno) { return w.Move(moved, "n/m") })
					}
					if t.Failed() {
						t.Fatalf("P5: so it is with %d of resource %d in %q", units, resource, tight)
					}
				}
			}
		}
	}
}

// TestMoveToWhereSomeIsIdle: what others there leave idle it may use, and what they use counts.
func TestMoveToWhereSomeIsIdle(t *testing.T) {
	for resource := range 2 {
		w, there := used(t, resource)
		there = append(there, "n", "n/b")
		ok(t)(w.Cohort("n", none))
		ok(t)(w.Leaf("n/b", am(10, 10), none))
		submits(t, w, "n/b", of(resource, 6), 5, "+5")
		over(t, w, there, func() ([]api.Event, api.Errno) { return w.Move("x/y/z/a", "n") }) // 31 of 30
		ok(t)(w.Finish(5))
		submits(t, w, "n/b", of(resource, 5), 6, "+6")
		submits(t, w, "n/b", am(6, 6), 7, "")
		ok(t)(w.Move("x/y/z/a", "n"))
		told(t, w, api.Queue{Path: "n", Nominal: am(30, 30), Usage: of(resource, 30)})
		told(t, w, api.Queue{Path: "n/b", Leaf: true, Nominal: am(10, 10), Usage: of(resource, 5), Waiting: []int{7}})
		over(t, w, append(there, "n/a"), func() ([]api.Event, api.Errno) { return w.Quota("n/b", with(resource, 9, plenty), plenty) })
	}
}
