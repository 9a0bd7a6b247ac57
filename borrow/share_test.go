package borrow_test

import (
	"testing"

	"borrow/api"
	"borrow/borrow"
)

// P7: to whom is lent

// blocked is a tower of leaves with these nominals, from a on, in which all is used by the workload 1 of the leaf z
// as long as it is there. Then there is the nominal of z to lend, too.
func blocked(t *testing.T, ofZ api.Amount, nominals ...api.Amount) *borrow.Tower {
	t.Helper()
	w := fresh(t)
	ok(t)(w.Leaf("z", ofZ, plenty))
	all := ofZ
	for i, nominal := range nominals {
		ok(t)(w.Leaf(string(rune('a'+i)), nominal, plenty))
		all = am(all[0]+nominal[0], all[1]+nominal[1])
	}
	submits(t, w, "z", all, 1, "+1")
	return w
}

// asks brings one workload to each leaf, from a on, with the numbers from 2 on; all are to wait.
func asks(t *testing.T, w *borrow.Tower, demands ...api.Amount) {
	t.Helper()
	for i, demand := range demands {
		submits(t, w, string(rune('a'+i)), demand, i+2, "")
	}
}

// TestTheLeastShareComesFirst: of one resource, the other one, or both, whatever the order in which they came.
func TestTheLeastShareComesFirst(t *testing.T) {
	for _, c := range []struct {
		a, b, c api.Amount
		want    string
	}{
		{am(3, 0), am(2, 0), am(1, 0), "+4+3+2"},
		{am(0, 3), am(0, 1), am(0, 2), "+3+4+2"},
		{am(2, 1), am(1, 3), am(0, 2), "+4+3+2"}, // 2/40, 3/80, 2/80
		{am(1, 6), am(2, 5), am(3, 0), "+3+2+4"}, // 6/80, 5/80, 3/40, as much as the first
		{am(3, 0), am(2, 5), am(1, 6), "+3+2+4"},
		{am(1, 1), am(1, 1), am(1, 1), "+2+3+4"},
		{am(1, 2), am(1, 1), am(1, 0), "+2+3+4"}, // 1/40 of each, and of the other no more than that
		{am(1, 3), am(1, 2), am(0, 3), "+3+2+4"},
		{am(10, 0), am(0, 19), am(0, 21), "+3+2+4"},
		{am(0, 20), am(9, 0), am(11, 0), "+3+2+4"},
	} {
		w := blocked(t, am(40, 80), none, none, none)
		asks(t, w, c.a, c.b, c.c)
		does(t, c.want)(w.Finish(1))
		if t.Failed() {
			t.Fatalf("P7: so it is with %+v", c)
		}
	}
}

// TestSharesAreExact: ones that are nearly the same are not the same, and great ones are not too great.
func TestSharesAreExact(t *testing.T) {
	w := blocked(t, am(1000, 999), none, none)
	asks(t, w, am(0, 1), am(1, 0)) // 1/999, 1/1000
	does(t, "+3+2")(w.Finish(1))
	w = blocked(t, am(1000, 999), none, none)
	asks(t, w, am(333, 0), am(0, 332)) // 0.333, 0.3323
	does(t, "+3+2")(w.Finish(1))
	w = blocked(t, am(999, 1000), none, none)
	asks(t, w, am(333, 0), am(0, 333)) // 1/3, 0.333
	does(t, "+3+2")(w.Finish(1))
	w = blocked(t, am(600, 300), none, none)
	asks(t, w, am(2, 0), am(0, 1)) // 1/300 both
	does(t, "+2+3")(w.Finish(1))
}

// TestGreatShares: with all that a tower can hold.
func TestGreatShares(t *testing.T) {
	w := fresh(t)
	for i := range api.MaxQueues - 3 {
		ok(t)(w.Leaf("x"+string(rune('a'+i)), am(1000, 999), none))
	}
	ok(t)(w.Leaf("a", none, plenty))
	ok(t)(w.Leaf("b", none, plenty))
	for i := range api.MaxQueues - 3 {
		if _, _, e := w.Submit("x"+string(rune('a'+i)), am(1000, 999)); e != api.OK {
			t.Fatalf("P6: Submit = %d", e)
		}
	}
	submits(t, w, "a", am(0, 999), 18, "")
	submits(t, w, "b", am(999, 0), 19, "")
	does(t, "+19+18")(w.Finish(1))
	uses(t, w, "", am(16*1000+999, 17*999))
}

// TestTheShareIsOfWhatIsAboveTheNominal: not of the demand, and not of what the leaf uses.
func TestTheShareIsOfWhatIsAboveTheNominal(t *testing.T) {
	w := blocked(t, am(50, 50), am(30, 0), none, am(0, 20))
	asks(t, w, am(32, 0), am(3, 0), am(1, 20)) // 2, 3, 1 above
	does(t, "+4+2+3")(w.Finish(1))
	w = blocked(t, am(50, 50), am(10, 10), am(20, 20))
	asks(t, w, am(12, 12), am(21, 21))
	does(t, "+3+2")(w.Finish(1))
}

// TestTheShareIsWithWhatTheLeafUses: what it uses already counts, above its nominal or to it.
func TestTheShareIsWithWhatTheLeafUses(t *testing.T) {
	w := fresh(t)
	ok(t)(w.Leaf("z", am(50, 50), none))
	ok(t)(w.Leaf("a", am(4, 0), plenty))
	ok(t)(w.Leaf("b", none, plenty))
	submits(t, w, "z", am(42, 50), 1, "+1")
	submits(t, w, "a", am(9, 0), 2, "+2") // 5 above
	submits(t, w, "b", am(3, 0), 3, "+3") // all is used
	submits(t, w, "a", am(1, 0), 4, "")   // 6 above
	submits(t, w, "b", am(4, 0), 5, "")   // 7 above
	submits(t, w, "b", am(1, 0), 6, "")
	submits(t, w, "a", am(1, 0), 7, "") // 7 above, too
	does(t, "+4+5+7+6")(w.Finish(1))    // 6; 7 of the lesser number; 7; 8
	uses(t, w, "", am(19, 0))
}

// TestTheShareGrowsInALine: leaves take turns as their shares grow.
func TestTheShareGrowsInALine(t *testing.T) {
	w := blocked(t, am(50, 50), none, none)
	for n := 2; n <= 4; n++ {
		submits(t, w, "a", am(2, 0), n, "")
	}
	for n := 5; n <= 6; n++ {
		submits(t, w, "b", am(3, 0), n, "")
	}
	does(t, "+2+5+3+4+6")(w.Finish(1)) // 2; 3; 4; 6 of the lesser number; 6
}

// TestTheRootsNominalDivides: not that of the leaf, nor of the cohort in which it hangs.
func TestTheRootsNominalDivides(t *testing.T) {
	w := fresh(t)
	ok(t)(w.Cohort("x", plenty))
	ok(t)(w.Leaf("x/a", am(1, 30), plenty))
	ok(t)(w.Leaf("z", am(39, 0), none))
	ok(t)(w.Leaf("b", am(0, 10), plenty)) // 40 of both
	submits(t, w, "z", am(39, 0), 1, "+1")
	submits(t, w, "x/a", am(1, 0), 2, "+2")
	submits(t, w, "b", am(3, 0), 3, "")
	submits(t, w, "x/a", am(2, 0), 4, "")
	does(t, "+4+3")(w.Finish(1)) // 2 of 40, 3 of 40; 2 of x's 1 were more
}

// TestTheLeastShareThatFits: one that does not fit is left out, though its share is less.
func TestTheLeastShareThatFits(t *testing.T) {
	w := fresh(t)
	ok(t)(w.Leaf("z", am(20, 20), none))
	ok(t)(w.Leaf("a", none, am(1, 1)))
	ok(t)(w.Leaf("b", none, plenty))
	ok(t)(w.Leaf("c", none, plenty))
	submits(t, w, "z", am(20, 20), 1, "+1")
	submits(t, w, "a", am(2, 0), 2, "")
	submits(t, w, "b", am(5, 9), 3, "")
	submits(t, w, "c", am(6, 12), 4, "")
	submits(t, w, "c", none, 5, "")
	submits(t, w, "b", am(15, 0), 6, "")
	does(t, "+3+6")(w.Finish(1)) // 2 never fits; 4 would be 21 of 20 of the second
	uses(t, w, "", am(20, 9))
	uses(t, w, "a", none, 2)
	uses(t, w, "c", none, 4, 5)
}

// TestARootWithNothing: of a resource of which there is nothing, nobody is above anything.
func TestARootWithNothing(t *testing.T) {
	w := fresh(t)
	ok(t)(w.Leaf("a", none, plenty))
	ok(t)(w.Leaf("b", none, plenty))
	submits(t, w, "a", am(1, 0), 1, "")
	submits(t, w, "b", am(0, 1), 2, "")
	submits(t, w, "a", none, 3, "")
	does(t, "+3")(w.Finish(1))
	for resource := range 2 {
		w := blocked(t, of(resource, 30), none, none, none, none)
		asks(t, w, of(resource, 3), of(resource, 2), am(1, 1), of(resource, 3))
		does(t, "+3+2+5")(w.Finish(1))
		uses(t, w, "", of(resource, 8))
		uses(t, w, "c", none, 4) // one of nothing
	}
}
