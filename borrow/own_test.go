package borrow_test

import (
	"testing"

	"borrow/api"
	"borrow/borrow"
)

// P7: who is its leaf's own, and who is put out for it

// lent is a tower in which a has 10 of either resource, and b may borrow that; nothing is used.
func lent(t *testing.T) *borrow.Tower {
	t.Helper()
	w := fresh(t)
	ok(t)(w.Leaf("a", am(10, 10), am(10, 10)))
	ok(t)(w.Leaf("b", am(10, 10), am(10, 10)))
	return w
}

// TestOwnToTheLastUnit: its own is what stays within the nominal, of both resources; for no unit more is anybody put out.
func TestOwnToTheLastUnit(t *testing.T) {
	for _, c := range []struct {
		demand api.Amount
		want   string
	}{
		{am(10, 10), "-1+2"}, {am(10, 0), "-1+2"}, {am(0, 10), "-1+2"}, {am(1, 0), "-1+2"}, {am(0, 1), "-1+2"},
		{am(11, 0), ""}, {am(0, 11), ""}, {am(11, 10), ""}, {am(10, 11), ""}, {am(11, 11), ""},
		{none, "+2"},
	} {
		w := lent(t)
		submits(t, w, "b", am(20, 20), 1, "+1")
		submits(t, w, "a", c.demand, 2, c.want)
		if t.Failed() {
			t.Fatalf("P7: so it is with a demand of %v", c.demand)
		}
	}
}

// TestOwnWithWhatTheLeafUses: what the leaf uses already counts too.
func TestOwnWithWhatTheLeafUses(t *testing.T) {
	w := lent(t)
	submits(t, w, "a", am(4, 2), 1, "+1")
	submits(t, w, "b", am(12, 10), 2, "+2")
	submits(t, w, "b", am(4, 8), 3, "+3") // all is used
	submits(t, w, "a", am(7, 0), 4, "")   // 11 of 10
	ok(t)(w.Finish(4))
	submits(t, w, "a", am(0, 9), 5, "") // 11 of 10
	ok(t)(w.Finish(5))
	submits(t, w, "a", am(6, 8), 6, "-3-2+6") // 3 would fit again, but stands behind 2
	uses(t, w, "b", none, 2, 3)
}

// TestOwnThatFits: nobody is put out where nobody is in the way.
func TestOwnThatFits(t *testing.T) {
	w := lent(t)
	ok(t)(w.Leaf("c", am(5, 5), none))
	submits(t, w, "b", am(15, 15), 1, "+1")
	submits(t, w, "a", am(10, 10), 2, "+2")
	uses(t, w, "", am(25, 25))
	uses(t, w, "b", am(15, 15))
}

// TestOneUnitShort: one that is short by a unit only puts out as one that is short by all.
func TestOneUnitShort(t *testing.T) {
	for resource := range 2 {
		w := lent(t)
		submits(t, w, "b", of(resource, 11), 1, "+1")
		submits(t, w, "a", of(resource, 9), 2, "+2")
		submits(t, w, "a", of(resource, 1), 3, "-1+3")
		uses(t, w, "b", none, 1)
	}
}

// TestOneIsPutOutAtATime: no more are put out than is needed, the newest first.
func TestOneIsPutOutAtATime(t *testing.T) {
	w := lent(t)
	for n := 1; n <= 5; n++ {
		submits(t, w, "b", am(4, 0), n, "+"+string(rune('0'+n)))
	}
	submits(t, w, "b", none, 6, "+6")
	submits(t, w, "a", am(4, 0), 7, "-5+7") // not 6, which has nothing of it
	submits(t, w, "a", am(5, 0), 8, "-4-3+8")
	uses(t, w, "b", am(8, 0), 3, 4, 5)
	uses(t, w, "", am(17, 0))
	submits(t, w, "a", am(1, 0), 9, "+9")
}

// TestWhoIsPutOutStandsFirst: ahead of those that wait there already, and behind none.
func TestWhoIsPutOutStandsFirst(t *testing.T) {
	w := lent(t)
	submits(t, w, "b", am(6, 0), 1, "+1")
	submits(t, w, "b", am(7, 0), 2, "+2")
	submits(t, w, "b", am(7, 0), 3, "+3")
	submits(t, w, "b", am(8, 0), 4, "")
	submits(t, w, "b", am(0, 1), 5, "")
	uses(t, w, "b", am(20, 0), 4, 5)
	submits(t, w, "a", am(10, 0), 6, "-3-2+6")
	uses(t, w, "b", am(6, 0), 2, 3, 4, 5)
	for _, n := range []int{2, 3} {
		works(t, w, n, api.Work{Path: "b", Demand: am(7, 0)})
	}
	does(t, "+2+3")(w.Finish(6))
	uses(t, w, "b", am(20, 0), 4, 5)
}

// TestTheNewestIsWhoWasAdmittedLast: not the one with the greatest number.
func TestTheNewestIsWhoWasAdmittedLast(t *testing.T) {
	w := lent(t)
	ok(t)(w.Leaf("c", none, am(10, 10)))
	submits(t, w, "a", am(10, 0), 1, "+1")
	submits(t, w, "b", am(11, 0), 2, "")
	submits(t, w, "c", am(9, 0), 3, "+3")
	does(t, "+2")(w.Finish(1)) // all is used
	submits(t, w, "a", am(1, 0), 4, "-2+4")
	submits(t, w, "c", am(1, 0), 5, "+5")
	ok(t)(w.Finish(5))
	does(t, "+2")(w.Finish(4)) // admitted again, behind 3
	submits(t, w, "a", am(1, 0), 6, "-2+6")
	uses(t, w, "c", am(9, 0))
}

// TestOnlyWhoIsAboveItsNominal: who is within it keeps what it has, however new it is.
func TestOnlyWhoIsAboveItsNominal(t *testing.T) {
	w := lent(t)
	ok(t)(w.Leaf("c", am(10, 10), am(10, 10)))
	submits(t, w, "b", am(20, 0), 1, "+1")
	submits(t, w, "c", am(10, 5), 2, "+2") // to the last unit
	submits(t, w, "a", am(2, 0), 3, "-1+3")
	uses(t, w, "c", am(10, 5))
	w = lent(t)
	ok(t)(w.Leaf("c", am(10, 10), am(10, 10)))
	submits(t, w, "b", am(19, 0), 1, "+1")
	submits(t, w, "c", am(11, 5), 2, "+2") // one unit above it
	submits(t, w, "a", am(2, 0), 3, "-2+3")
	uses(t, w, "b", am(19, 0))
}

// TestOnlyWhoIsAboveItsNominalOfThat: of the resource that is short, not of the other one.
func TestOnlyWhoIsAboveItsNominalOfThat(t *testing.T) {
	for resource := range 2 {
		other := 1 - resource
		w := lent(t)
		ok(t)(w.Leaf("c", am(10, 10), am(10, 10)))
		submits(t, w, "b", of(resource, 19), 1, "+1")
		submits(t, w, "c", of(other, 18), 2, "+2")
		submits(t, w, "c", of(resource, 9), 3, "+3") // 9 of 10, though 18 of 10 of the other
		submits(t, w, "a", of(resource, 3), 4, "-1+4")
		uses(t, w, "c", am(9+9*resource, 9+9*other))
	}
}

// TestOnlyWhoHasOfThat: who has nothing of the resource that is short makes no room.
func TestOnlyWhoHasOfThat(t *testing.T) {
	for resource := range 2 {
		w := lent(t)
		submits(t, w, "b", of(resource, 20), 1, "+1")
		submits(t, w, "b", of(1-resource, 20), 2, "+2")
		submits(t, w, "b", none, 3, "+3")
		submits(t, w, "a", of(resource, 1), 4, "-1+4")
		uses(t, w, "b", of(1-resource, 20), 1)
		submits(t, w, "a", am(1, 1), 5, "-2+5")
	}
}

// TestOnlyWhoLiesBelow: where it is short in a cohort, who is outside of that keeps what it has.
func TestOnlyWhoLiesBelow(t *testing.T) {
	w := fresh(t)
	ok(t)(w.Cohort("x", none))
	ok(t)(w.Leaf("x/a", am(10, 10), none))
	ok(t)(w.Leaf("x/b", am(10, 10), am(10, 10)))
	ok(t)(w.Cohort("x/y", am(10, 10)))
	ok(t)(w.Leaf("x/y/a", am(10, 10), am(10, 10)))
	ok(t)(w.Leaf("c", am(10, 10), am(10, 10)))
	ok(t)(w.Leaf("d", am(10, 10), none))
	ok(t)(w.Leaf("xa", am(10, 10), am(10, 10)))
	submits(t, w, "x/b", am(14, 0), 1, "+1")
	submits(t, w, "x/y/a", am(16, 0), 2, "+2") // 30 of x's 30
	submits(t, w, "c", am(12, 0), 3, "+3")
	submits(t, w, "xa", am(12, 0), 4, "+4") // no name in a path, but the start of one
	submits(t, w, "x/a", am(2, 0), 5, "-2+5")
	submits(t, w, "x/a", am(8, 0), 6, "+6") // 24 of x, 48 of the root's 60
	submits(t, w, "xa", am(8, 0), 7, "+7")
	submits(t, w, "c", am(4, 0), 8, "+8") // all is used
	submits(t, w, "d", am(1, 0), 9, "-8+9")
	uses(t, w, "x", am(24, 0))
}

// TestShortInSeveralQueues: of one resource in a cohort, of the other in the root.
func TestShortInSeveralQueues(t *testing.T) {
	w := fresh(t)
	ok(t)(w.Cohort("x", am(0, 10)))
	ok(t)(w.Leaf("x/a", am(10, 10), none))
	ok(t)(w.Leaf("x/b", am(10, 10), am(10, 10)))
	ok(t)(w.Leaf("c", am(20, 10), am(10, 10)))
	submits(t, w, "x/b", am(20, 0), 1, "+1")    // all of x
	submits(t, w, "c", am(0, 16), 2, "+2")      // of the root's 30
	submits(t, w, "x/b", am(0, 14), 3, "+3")    // all of the root's
	submits(t, w, "c", am(12, 0), 4, "+4")      // of the root's 40
	submits(t, w, "x/a", am(1, 1), 5, "-3-1+5") // 3 makes room in the root, 1 in x
	uses(t, w, "c", am(12, 16))
}

// TestWhoIsPutOutMayComeBack: at once, if it fits when the other one has been admitted.
func TestWhoIsPutOutMayComeBack(t *testing.T) {
	w := lent(t)
	ok(t)(w.Leaf("c", am(10, 10), am(10, 10)))
	ok(t)(w.Leaf("d", none, am(1, 1)))
	submits(t, w, "b", am(18, 0), 1, "+1")
	submits(t, w, "c", am(11, 0), 2, "+2")
	submits(t, w, "d", am(1, 0), 3, "+3")
	submits(t, w, "a", am(10, 0), 4, "-3-2+4+3")
	uses(t, w, "c", none, 2)
	uses(t, w, "d", am(1, 0))
}

// TestOwnAfterAnEnd: who waits in a leaf becomes its own when another of the leaf ends, and puts others out then.
func TestOwnAfterAnEnd(t *testing.T) {
	w := lent(t)
	submits(t, w, "a", am(6, 0), 1, "+1")
	submits(t, w, "b", am(14, 0), 2, "+2")
	submits(t, w, "a", am(9, 0), 3, "")
	submits(t, w, "a", am(1, 0), 4, "")
	submits(t, w, "a", am(1, 0), 5, "")
	submits(t, w, "b", am(0, 1), 6, "+6")
	does(t, "-2+3+4+5")(w.Finish(1)) // 4 is its own, and 5 fits, since 2 does not
	uses(t, w, "b", am(0, 1), 2)
	w = lent(t)
	submits(t, w, "b", am(19, 0), 1, "+1")
	submits(t, w, "a", am(11, 0), 2, "")
	submits(t, w, "a", am(10, 0), 3, "")
	does(t, "-1+3")(w.Finish(2)) // it waited, and kept 3 from its own
}

// TestOwnOfSeveralLeaves: each gets its own in turn, from the same borrower.
func TestOwnOfSeveralLeaves(t *testing.T) {
	w := fresh(t)
	ok(t)(w.Leaf("z", am(3, 3), plenty))
	for _, path := range []string{"c", "a", "b"} {
		ok(t)(w.Leaf(path, am(4, 4), plenty))
	}
	for n := 1; n <= 5; n++ {
		submits(t, w, "z", am(3, 3), n, "+"+string(rune('0'+n)))
	}
	submits(t, w, "c", am(4, 4), 6, "-5-4+6")
	submits(t, w, "a", am(2, 2), 7, "+7")
	submits(t, w, "a", am(2, 2), 8, "-3+8")
	submits(t, w, "b", am(3, 3), 9, "-2+9")
	submits(t, w, "b", am(1, 1), 10, "+10")
	submits(t, w, "b", am(1, 1), 11, "")
	uses(t, w, "z", am(3, 3), 2, 3, 4, 5)
	uses(t, w, "", am(15, 15))
}

// TestOwnComesAheadOfLending: what one that ends leaves goes to who is its leaf's own, not to who waits longer.
func TestOwnComesAheadOfLending(t *testing.T) {
	w := lent(t)
	submits(t, w, "a", am(10, 0), 1, "+1")
	submits(t, w, "b", am(10, 0), 2, "+2")
	submits(t, w, "b", am(1, 0), 3, "")
	submits(t, w, "a", am(9, 0), 4, "")
	submits(t, w, "a", am(1, 0), 5, "")
	submits(t, w, "a", am(1, 0), 6, "")
	does(t, "+4+5")(w.Finish(1))
	uses(t, w, "b", am(10, 0), 3)
	uses(t, w, "a", am(10, 0), 6)
}
