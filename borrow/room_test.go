package borrow_test

import (
	"testing"

	"borrow/api"
)

// P7 behind the calls of P5

// TestMoreToBorrow: where a leaf, its cohort or another leaf gets more, who waits is admitted, as far as it goes.
func TestMoreToBorrow(t *testing.T) {
	for resource := range 2 {
		w := fresh(t)
		ok(t)(w.Cohort("x", none))
		ok(t)(w.Leaf("x/a", am(10, 10), none))
		ok(t)(w.Leaf("b", am(10, 10), none))
		submits(t, w, "x/a", of(resource, 12), 1, "")
		submits(t, w, "x/a", of(resource, 3), 2, "")
		submits(t, w, "x/a", of(resource, 8), 3, "")
		ok(t)(w.Quota("x/a", am(10, 10), with(resource, 1, plenty)))
		ok(t)(w.Quota("x/a", am(10, 10), plenty)) // 12 of x's 10
		ok(t)(w.Quota("x", none, with(resource, 1, plenty)))
		does(t, "+1")(w.Quota("x", none, am(2, 2)))
		does(t, "+2")(w.Quota("x", none, plenty)) // 23 of the root's 20
		uses(t, w, "x/a", of(resource, 15), 3)
		ok(t)(w.Quota("b", with(resource, 12, none), none))
		does(t, "+3")(w.Quota("b", with(resource, 13, none), none))
		uses(t, w, "", of(resource, 23))
	}
}

// TestMoreOfItsOwn: a leaf's nominal grows, and who waits there is its own then, one behind the other: others are put
// out for each.
func TestMoreOfItsOwn(t *testing.T) {
	for resource := range 2 {
		w := lent(t)
		for n := 1; n <= 3; n++ {
			submits(t, w, "b", of(resource, 6), n, "+"+string(rune('0'+n)))
		}
		submits(t, w, "a", of(resource, 2), 4, "+4") // all is used
		submits(t, w, "a", of(resource, 9), 5, "")
		submits(t, w, "a", of(resource, 5), 6, "")
		submits(t, w, "a", of(resource, 2), 7, "")
		ok(t)(w.Quota("a", am(10, 10), plenty))
		does(t, "-3-2+5")(w.Quota("a", with(resource, 11, am(10, 10)), am(10, 10)))
		uses(t, w, "b", of(resource, 6), 2, 3) // 17 of 21; 23 with either
		does(t, "+6+7")(w.Quota("a", with(resource, 18, am(10, 10)), am(10, 10)))
		uses(t, w, "", of(resource, 24))
		uses(t, w, "b", of(resource, 6), 2, 3)
	}
}

// TestSeveralOwnPutOutInTurn: by one change, for each of a line as it comes to be the head.
func TestSeveralOwnPutOutInTurn(t *testing.T) {
	w := fresh(t)
	ok(t)(w.Leaf("a", am(18, 0), none))
	ok(t)(w.Leaf("b", am(10, 10), plenty))
	ok(t)(w.Leaf("c", none, plenty))
	ok(t)(w.Leaf("d", am(10, 10), none))
	submits(t, w, "b", am(7, 0), 1, "+1")
	submits(t, w, "c", am(8, 0), 2, "+2")
	submits(t, w, "b", am(11, 0), 3, "+3")
	submits(t, w, "c", am(12, 0), 4, "+4") // all is used
	submits(t, w, "a", am(0, 1), 5, "")    // a has none of that
	for n := 6; n <= 9; n++ {
		submits(t, w, "a", am(6, 0), n, "")
	}
	does(t, "+5-4+6+7-3+8")(w.Quota("a", am(18, 1), none)) // of 38 are used 26+6, 32+6, 27+6; 9 is 24 of 18
	uses(t, w, "a", am(18, 1), 9)
	uses(t, w, "b", am(7, 0), 3)
	uses(t, w, "c", am(8, 0), 4)
}

// TestLessOfItsOwn: who was within the nominal of its leaf is above it when that has less, and is put out for others;
// and is its leaf's own again when that has more.
func TestLessOfItsOwn(t *testing.T) {
	for resource := range 2 {
		w := lent(t)
		submits(t, w, "b", of(resource, 10), 1, "+1")
		ok(t)(w.Quota("b", with(resource, 4, am(10, 10)), plenty))
		submits(t, w, "a", of(resource, 10), 2, "-1+2") // 20 of 14
		ok(t)(w.Quota("b", with(resource, 9, am(10, 10)), plenty))
		uses(t, w, "b", none, 1)
		does(t, "+1")(w.Quota("b", with(resource, 10, am(10, 10)), none))
	}
}

// TestSharesBehindTheChange: what the root and the leaf have by then counts.
func TestSharesBehindTheChange(t *testing.T) {
	w := blocked(t, am(10, 10), none, none)
	asks(t, w, am(3, 0), am(0, 4))
	does(t, "+3+2")(w.Quota("z", am(20, 40), plenty)) // 4/40, 3/20; of 10 they were 4/10, 3/10
	w = fresh(t)
	ok(t)(w.Leaf("a", none, plenty))
	ok(t)(w.Leaf("b", none, plenty))
	ok(t)(w.Leaf("z", am(10, 10), none))
	submits(t, w, "z", am(8, 8), 1, "+1")
	submits(t, w, "a", am(3, 0), 2, "")
	submits(t, w, "b", am(5, 0), 3, "")
	does(t, "+3")(w.Quota("b", am(3, 0), plenty)) // 3 and 2 above, and they were 3 and 5: all 13 are used
	uses(t, w, "a", none, 2)
}

// TestMoveToMore: who waited for what its old cohort had not is admitted in the new one.
func TestMoveToMore(t *testing.T) {
	for resource := range 2 {
		w := fresh(t)
		ok(t)(w.Cohort("x", none))
		ok(t)(w.Cohort("x/y", none))
		ok(t)(w.Cohort("n", am(1, 1)))
		ok(t)(w.Leaf("x/y/a", am(5, 5), plenty))
		ok(t)(w.Leaf("x/y/b", am(5, 5), plenty))
		ok(t)(w.Leaf("c", am(90, 90), none))
		submits(t, w, "x/y/a", of(resource, 6), 1, "+1")
		submits(t, w, "x/y/b", of(resource, 4), 2, "+2")
		submits(t, w, "x/y/b", of(resource, 3), 3, "") // 2 above
		submits(t, w, "x/y/a", of(resource, 2), 4, "") // 3 above
		submits(t, w, "x/y/a", of(resource, 1), 5, "")
		ok(t)(w.Move("x/y", ""))
		ok(t)(w.Move("y", "n"))
		ok(t)(w.Quota("n/y", none, plenty))  // 13 and 12 of n's 11
		does(t, "+3+4+5")(w.Move("n/y", "")) // 2 above, 3, 4
		uses(t, w, "y", of(resource, 16))
		works(t, w, 4, api.Work{Path: "y/a", Demand: of(resource, 2), Admitted: true})
	}
}

// TestMoveBringsMore: what a leaf has that is moved into a cohort others there may borrow.
func TestMoveBringsMore(t *testing.T) {
	w := fresh(t)
	ok(t)(w.Cohort("x", none))
	ok(t)(w.Leaf("x/a", am(5, 5), plenty))
	ok(t)(w.Leaf("x/b", none, plenty))
	ok(t)(w.Leaf("c", am(4, 0), none))
	ok(t)(w.Leaf("d", am(2, 4), none))
	submits(t, w, "x/a", am(5, 5), 1, "+1")
	submits(t, w, "x/a", am(3, 0), 2, "")
	submits(t, w, "x/b", am(2, 0), 3, "")
	submits(t, w, "x/b", am(2, 2), 4, "")
	does(t, "+3")(w.Move("c", "x")) // 2 above, and 3; then 4 and 3: 7 of 9, 10 of 9
	uses(t, w, "x/a", am(5, 5), 2)
	uses(t, w, "x/b", am(2, 0), 4)
	does(t, "+2")(w.Move("d", "x")) // 3 above, and 4: 10 of 11; 12 of 11
	uses(t, w, "x", am(10, 5))
	uses(t, w, "x/b", am(2, 0), 4)
}

// TestMoveLeavesMore: what a queue used where it hung others there may use.
func TestMoveLeavesMore(t *testing.T) {
	w := fresh(t)
	ok(t)(w.Cohort("x", none))
	ok(t)(w.Leaf("x/a", none, plenty))
	ok(t)(w.Leaf("x/b", am(10, 10), none))
	ok(t)(w.Leaf("x/c", none, plenty))
	ok(t)(w.Leaf("d", am(10, 10), none))
	submits(t, w, "x/a", am(8, 8), 1, "+1")
	submits(t, w, "x/c", am(5, 5), 2, "")
	submits(t, w, "x/c", am(5, 5), 3, "")
	does(t, "+2+3")(w.Move("x/a", "")) // 18 of the root's 20
	told(t, w, api.Queue{Path: "x", Nominal: am(10, 10), Usage: am(10, 10)})
	told(t, w, api.Queue{Path: "a", Leaf: true, Borrow: plenty, Usage: am(8, 8)})
}

// TestMovedKeepTheirOrder: who was admitted last, and who stands first, is so behind a move.
func TestMovedKeepTheirOrder(t *testing.T) {
	w := fresh(t)
	ok(t)(w.Cohort("x", plenty))
	ok(t)(w.Cohort("y", plenty))
	ok(t)(w.Leaf("a", am(20, 20), none))
	ok(t)(w.Leaf("b", none, plenty))
	ok(t)(w.Leaf("c", none, plenty))
	submits(t, w, "b", am(5, 0), 1, "+1")
	submits(t, w, "c", am(5, 0), 2, "+2")
	submits(t, w, "b", am(5, 0), 3, "+3")
	submits(t, w, "c", am(5, 0), 4, "+4")
	submits(t, w, "c", am(6, 0), 5, "")
	submits(t, w, "b", am(7, 0), 6, "")
	submits(t, w, "c", am(7, 0), 7, "")
	ok(t)(w.Move("c", "x"))
	ok(t)(w.Move("b", "y"))
	ok(t)(w.Move("y", "x"))
	ok(t)(w.Move("x/c", "x/y"))
	uses(t, w, "x/y/c", am(10, 0), 5, 7)
	uses(t, w, "x/y/b", am(10, 0), 6)
	submits(t, w, "a", am(16, 0), 8, "-4-3-2-1+8")
	uses(t, w, "x/y/c", none, 2, 4, 5, 7)
	uses(t, w, "x/y/b", none, 1, 3, 6)
}

// TestOnlyWhoLiesBelowBehindAMove: who has been moved out of a cohort is in nobody's way there, who has come in is.
func TestOnlyWhoLiesBelowBehindAMove(t *testing.T) {
	w := fresh(t)
	ok(t)(w.Cohort("x", none))
	ok(t)(w.Leaf("x/a", am(10, 10), none))
	ok(t)(w.Leaf("x/b", am(5, 5), plenty))
	ok(t)(w.Leaf("c", am(5, 5), plenty))
	ok(t)(w.Leaf("d", am(90, 90), none))
	submits(t, w, "c", am(8, 0), 1, "+1")
	submits(t, w, "x/b", am(8, 0), 2, "+2")
	ok(t)(w.Move("x/b", ""))
	ok(t)(w.Move("c", "x"))
	submits(t, w, "x/a", am(8, 0), 3, "-1+3") // 16 of 15
	uses(t, w, "b", am(8, 0))
	uses(t, w, "x/c", none, 1)
}

// TestRemoveLetsNobodyIn: there is only less behind it; and the shares are of what is left.
func TestRemoveLetsNobodyIn(t *testing.T) {
	w := blocked(t, am(10, 10), none, none)
	ok(t)(w.Leaf("y", am(0, 30), none))
	asks(t, w, am(3, 0), am(0, 31))
	ok(t)(w.Finish(3))
	submits(t, w, "b", am(1, 4), 4, "")
	ok(t)(w.Remove("y"))
	ok(t)(w.Leaf("y", none, none))
	ok(t)(w.Cohort("x", plenty))
	ok(t)(w.Remove("y"))
	ok(t)(w.Remove("x"))
	does(t, "+2+4")(w.Finish(1)) // 3/10, 4/10; of 40 it were 4/40
}

// TestExampleOfChanges: the second one of DOC.md, behind the first one.
func TestExampleOfChanges(t *testing.T) {
	w := example(t)
	submits(t, w, "x/b", am(15, 5), 1, "+1")
	submits(t, w, "x/b", am(8, 1), 2, "+2")
	submits(t, w, "x/b", am(3, 1), 3, "")
	submits(t, w, "x/a", am(10, 0), 4, "-2+4")
	does(t, "+2+3")(w.Finish(1))
	no(t, api.ErrOver)(w.Quota("x", none, none)) // 21 of 20
	told(t, w, api.Queue{Path: "x", Nominal: am(20, 20), Borrow: am(5, 5), Usage: am(21, 2)})
	ok(t)(w.Quota("x", none, am(1, 0)))
	ok(t)(w.Quota("x", none, am(5, 5)))
	ok(t)(w.Move("c", "x"))
	told(t, w, api.Queue{Path: "x/c", Leaf: true, Nominal: am(10, 10), Borrow: am(10, 10)})
	untold(t, w, "c", api.ErrNone)
	no(t, api.ErrCycle)(w.Move("x", "x"))
	no(t, api.ErrThere)(w.Move("x/c", "x"))
	no(t, api.ErrBusy)(w.Remove("x"))
	no(t, api.ErrBusy)(w.Remove("x/b"))
	no(t, api.ErrKind)(w.Leaf("x/b/d", none, none))
	no(t, api.ErrOver)(w.Remove("x/c")) // 21 of the root's 20
}
