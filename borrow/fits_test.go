package borrow_test

import (
	"fmt"
	"testing"

	"borrow/api"
	"borrow/borrow"
)

// P7: who fits

// of is so many units of one resource.
func of(resource, units int) api.Amount {
	var a api.Amount
	a[resource] = units
	return a
}

var plenty = am(api.MaxUnits, api.MaxUnits)

// tightAt is a tower in which x/y/z/a may use 25 of either resource, as far as one queue on its way to the root goes,
// and more, as far as the others go.
func tightAt(t *testing.T, tight string) *borrow.Tower {
	t.Helper()
	borrow := func(path string) api.Amount {
		if path == tight {
			return am(5, 5)
		}
		return am(500, 500)
	}
	w := fresh(t)
	ok(t)(w.Cohort("x", borrow("x")))
	ok(t)(w.Cohort("x/y", borrow("x/y")))
	ok(t)(w.Cohort("x/y/z", borrow("x/y/z")))
	ok(t)(w.Leaf("x/y/z/a", am(20, 20), borrow("x/y/z/a")))
	if tight == "" {
		ok(t)(w.Leaf("b", am(5, 5), none))
	} else {
		ok(t)(w.Leaf("b", am(500, 500), none))
	}
	return w
}

func TestJustFitsOrOneUnitTooGreat(t *testing.T) {
	for _, tight := range []string{"", "x", "x/y", "x/y/z", "x/y/z/a"} {
		for resource := range 2 {
			w := tightAt(t, tight)
			submits(t, w, "x/y/z/a", of(resource, 25), 1, "+1")
			submits(t, w, "x/y/z/a", of(resource, 1), 2, "")
			submits(t, w, "x/y/z/a", of(1-resource, 25), 3, "")
			does(t, "+3")(w.Finish(2))
			w = tightAt(t, tight)
			submits(t, w, "x/y/z/a", of(resource, 26), 1, "")
			w = tightAt(t, tight)
			submits(t, w, "x/y/z/a", of(resource, 12), 1, "+1")
			submits(t, w, "x/y/z/a", of(resource, 14), 2, "")
			does(t, "")(w.Finish(2))
			submits(t, w, "x/y/z/a", of(resource, 13), 3, "+3")
			if t.Failed() {
				t.Fatalf("P7: so it is with the limit of %q, of resource %d", tight, resource)
			}
		}
	}
}

// TestOthersUseTheLimitToo: in a cohort and in the root what others use counts.
func TestOthersUseTheLimitToo(t *testing.T) {
	for resource := range 2 {
		w := fresh(t)
		ok(t)(w.Cohort("x", am(4, 4)))
		ok(t)(w.Leaf("x/a", am(10, 10), plenty))
		ok(t)(w.Leaf("x/b", am(10, 10), plenty))
		ok(t)(w.Leaf("c", am(10, 10), plenty))
		submits(t, w, "x/a", of(resource, 13), 1, "+1")
		submits(t, w, "x/b", of(resource, 12), 2, "") // 25 of x's 24
		ok(t)(w.Finish(2))
		submits(t, w, "x/b", of(resource, 11), 3, "+3")
		submits(t, w, "c", of(resource, 10), 4, "-3+4") // 34 of the root's 30
		uses(t, w, "x", of(resource, 13))
		uses(t, w, "", of(resource, 23))
		submits(t, w, "c", of(resource, 8), 5, "")
		ok(t)(w.Finish(5))
		submits(t, w, "c", of(resource, 7), 6, "+6")
	}
}

// TestDemandsOfNothing: who asks for nothing is admitted, if nobody stands before it.
func TestDemandsOfNothing(t *testing.T) {
	w := fresh(t)
	ok(t)(w.Cohort("x", none))
	ok(t)(w.Leaf("x/a", none, none))
	ok(t)(w.Leaf("b", am(5, 5), am(5, 5)))
	submits(t, w, "x/a", none, 1, "+1")
	submits(t, w, "x/a", none, 2, "+2")
	submits(t, w, "x/a", am(0, 1), 3, "")
	submits(t, w, "x/a", none, 4, "")
	submits(t, w, "x/a", none, 5, "")
	uses(t, w, "x/a", none, 3, 4, 5)
	does(t, "+4+5")(w.Finish(3))
	submits(t, w, "b", am(5, 5), 6, "+6")
	submits(t, w, "b", none, 7, "+7") // the leaf's own, to the last unit
	ok(t)(w.Leaf("c", am(3, 3), none))
	submits(t, w, "b", am(3, 1), 8, "+8")
	submits(t, w, "b", none, 9, "+9") // no longer its own, but it fits
	uses(t, w, "b", am(8, 6))
}

func TestDemandsOfMaxUnits(t *testing.T) {
	w := fresh(t)
	ok(t)(w.Leaf("a", plenty, none))
	ok(t)(w.Leaf("b", am(999, 999), am(1, 1)))
	ok(t)(w.Leaf("c", am(999, 1000), am(0, 1000)))
	submits(t, w, "a", plenty, 1, "+1")
	submits(t, w, "b", plenty, 2, "+2")
	submits(t, w, "c", plenty, 3, "")
	submits(t, w, "c", am(999, 1000), 4, "")
	does(t, "-2+4")(w.Finish(3))
	uses(t, w, "", am(1999, 2000))
	uses(t, w, "b", none, 2)
	does(t, "+2")(w.Finish(4))
	uses(t, w, "", am(2000, 2000))
}

// TestOnlyTheHeadIsAdmitted: who stands behind one that does not fit waits, though it would fit itself.
func TestOnlyTheHeadIsAdmitted(t *testing.T) {
	w := fresh(t)
	ok(t)(w.Leaf("a", am(10, 10), none))
	ok(t)(w.Leaf("b", am(10, 10), none))
	submits(t, w, "a", am(6, 0), 1, "+1")
	submits(t, w, "a", am(5, 0), 2, "")
	submits(t, w, "a", am(1, 0), 3, "")
	submits(t, w, "a", am(5, 5), 4, "")
	submits(t, w, "b", am(1, 0), 5, "+5") // a line of its own
	ok(t)(w.Finish(5))
	uses(t, w, "a", am(6, 0), 2, 3, 4)
	does(t, "+2+3")(w.Finish(1))
	uses(t, w, "a", am(6, 0), 4)
	does(t, "+4")(w.Finish(3))
	uses(t, w, "a", am(10, 5))
}

// TestWholeLinesAreAdmitted: one call can admit many, from several lines.
func TestWholeLinesAreAdmitted(t *testing.T) {
	w := fresh(t)
	ok(t)(w.Leaf("a", none, plenty))
	ok(t)(w.Leaf("b", none, plenty))
	ok(t)(w.Leaf("c", am(100, 100), none))
	submits(t, w, "c", am(100, 100), 1, "+1")
	want := ""
	for n := 2; n <= api.MaxWork; n++ {
		submits(t, w, string(rune('a'+n%2)), am(1, 1), n, "")
		want += fmt.Sprintf("+%d", n)
	}
	does(t, want)(w.Finish(1))
	uses(t, w, "", am(23, 23))
}

// P7 behind the calls of P4

// TestAQueueMadeWhileOthersWait: a new leaf's nominal may be borrowed at once, as far as the limits go.
func TestAQueueMadeWhileOthersWait(t *testing.T) {
	w := fresh(t)
	ok(t)(w.Cohort("x", am(1, 1)))
	ok(t)(w.Leaf("x/a", am(10, 10), am(7, 7)))
	ok(t)(w.Leaf("b", none, am(9, 9)))
	submits(t, w, "x/a", am(12, 0), 1, "")
	submits(t, w, "x/a", am(1, 0), 2, "")
	submits(t, w, "b", am(0, 9), 3, "+3")
	submits(t, w, "b", am(0, 2), 4, "")
	ok(t)(w.Leaf("c", am(1, 1), none)) // 12 of the root's 11
	ok(t)(w.Leaf("d", am(1, 0), none)) // 12 of x's 11
	ok(t)(w.Leaf("e", am(9, 9), none))
	ok(t)(w.Cohort("x/y", plenty))
	does(t, "+1")(w.Leaf("x/y/a", am(1, 0), plenty)) // 12 of x's 12; the next one is 13
	no(t, api.ErrThere)(w.Leaf("x/y/a", plenty, plenty))
	no(t, api.ErrArg)(w.Leaf("x/y/b", am(1001, 0), plenty))
	uses(t, w, "x/a", am(12, 0), 2)
	does(t, "+2")(w.Leaf("x/y/b", am(1000, 0), none))
	uses(t, w, "b", am(0, 9), 4) // 11 of b's 9, whatever the others have
}

// TestALeafMadeWhileSeveralWait: they come by their shares of what the root has by then.
func TestALeafMadeWhileSeveralWait(t *testing.T) {
	w := fresh(t)
	ok(t)(w.Leaf("a", none, plenty))
	ok(t)(w.Leaf("b", none, plenty))
	ok(t)(w.Leaf("c", none, plenty))
	submits(t, w, "a", am(3, 3), 1, "")
	submits(t, w, "b", am(2, 4), 2, "")
	submits(t, w, "c", am(1, 1), 3, "")
	submits(t, w, "c", am(1, 1), 4, "")
	ok(t)(w.Cohort("x", plenty))
	does(t, "+3+2+4")(w.Leaf("x/a", am(4, 8), none)) // 1/4; then 2/4 of both; 3/4 does not fit any more
	uses(t, w, "", am(4, 6))
	uses(t, w, "a", none, 1)
}

// TestExampleOfWorkloads: the first one of DOC.md.
func TestExampleOfWorkloads(t *testing.T) {
	w := example(t)
	submits(t, w, "x/b", am(15, 5), 1, "+1")
	submits(t, w, "x/b", am(8, 1), 2, "+2")
	submits(t, w, "x/b", am(3, 1), 3, "")
	uses(t, w, "x", am(23, 6))
	submits(t, w, "x/a", am(10, 0), 4, "-2+4")
	uses(t, w, "x/b", am(15, 5), 2, 3)
	does(t, "+2+3")(w.Finish(1))
	uses(t, w, "x/b", am(11, 2))
	uses(t, w, "x", am(21, 2))
	uses(t, w, "", am(21, 2))
}
