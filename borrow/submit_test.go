package borrow_test

import (
	"fmt"
	"math"
	"testing"

	"borrow/api"
	"borrow/borrow"
)

// P6

// noNumbers are numbers that no workload has.
func noNumbers() []int {
	return []int{0, -1, -2, math.MinInt, math.MaxInt, 1 << 32, 1<<32 + 1, 1 << 62, math.MaxInt32, -1 << 32}
}

func TestNumbersAreGivenInTurn(t *testing.T) {
	w := fresh(t)
	ok(t)(w.Leaf("a", am(9, 9), none))
	ok(t)(w.Leaf("b", am(9, 9), none))
	submits(t, w, "b", am(1, 1), 1, "+1")
	submits(t, w, "a", am(2, 2), 2, "+2")
	submits(t, w, "a", am(1000, 0), 3, "")
	refused(t, w, "a", am(1001, 0), api.ErrArg)
	refused(t, w, "c", none, api.ErrNone)
	submits(t, w, "b", am(0, 1), 4, "+4")
	ok(t)(w.Finish(4))
	ok(t)(w.Finish(3))
	submits(t, w, "b", none, 5, "+5") // no number comes twice
	unknown(t, w, 3, 4, 6)
}

func TestTheLastOneStandsLastInItsLine(t *testing.T) {
	w := fresh(t)
	ok(t)(w.Leaf("a", none, none))
	ok(t)(w.Leaf("b", none, none))
	for i, path := range []string{"a", "b", "b", "a", "a", "b"} {
		submits(t, w, path, am(1, 0), i+1, "")
	}
	uses(t, w, "a", none, 1, 4, 5)
	uses(t, w, "b", none, 2, 3, 6)
	uses(t, w, "", none)
	ok(t)(w.Finish(4))
	uses(t, w, "a", none, 1, 5)
	submits(t, w, "a", am(0, 1), 7, "")
	uses(t, w, "a", none, 1, 5, 7)
	uses(t, w, "b", none, 2, 3, 6)
}

// withWork is the sample tower with an admitted and a waiting workload in a and in x/y/z/a.
func withWork(t *testing.T) (*borrow.Tower, []string) {
	w, there := sample(t)
	submits(t, w, "a", am(1, 1), 1, "+1")
	submits(t, w, "a", am(5, 0), 2, "")
	submits(t, w, "x/y/z/a", am(8, 3), 3, "+3")
	submits(t, w, "x/y/z/a", am(0, 28), 4, "")
	return w, there
}

// refusedWork is who is refused, and by the first of all that speaks against it.
func refusedWork(t *testing.T, w *borrow.Tower) {
	t.Helper()
	for _, demand := range append(noAmounts(), none, am(1, 1), am(api.MaxUnits, api.MaxUnits)) {
		for _, text := range []string{"/", "a/", "x/", "x//a", "A", "abcde", " a", "a/b/c/d/e/"} {
			refused(t, w, text, demand, api.ErrPath)
		}
		for _, path := range []string{"b", "y", "x/b", "a/a", "x/y/z/a/a", "x/y/z/c/a", "a/b/c/d/e", "b/c/d/e/f/g"} {
			refused(t, w, path, demand, api.ErrNone)
		}
		for _, path := range []string{"", "x", "x/y", "x/y/z", "x/y/z/c"} {
			refused(t, w, path, demand, api.ErrKind)
		}
	}
	for _, text := range noPaths() {
		refused(t, w, text, am(1, 1), api.ErrPath)
	}
	for _, demand := range noAmounts() {
		refused(t, w, "a", demand, api.ErrArg)
		refused(t, w, "x/y/z/a", demand, api.ErrArg)
	}
}

func TestSubmitRefusedByTheFirstFault(t *testing.T) {
	w, there := withWork(t)
	before := picture(w, there)
	refusedWork(t, w)
	if after := picture(w, there); after != before {
		t.Errorf("P1: what was refused changed the tower from\n%s to\n%s", before, after)
	}
	submits(t, w, "x/a", none, 5, "+5") // and took no number
}

// manyWork brings workloads until there are MaxWork, these many among them; every other one waits.
func manyWork(t *testing.T, w *borrow.Tower, there int) {
	t.Helper()
	for n := there + 1; n <= api.MaxWork; n++ {
		if n%2 == 0 {
			submits(t, w, "a", am(1, 1), n, "")
		} else {
			submits(t, w, "x/a", none, n, fmt.Sprintf("+%d", n))
		}
	}
}

// TestMaxWorkAreThere: that there are too many is the last of all faults; who waits counts as who is admitted.
func TestMaxWorkAreThere(t *testing.T) {
	w, there := withWork(t)
	manyWork(t, w, 4)
	before := picture(w, there)
	for _, path := range []string{"a", "x/a", "x/y/z/a"} {
		for _, demand := range []api.Amount{none, am(1, 0), am(api.MaxUnits, api.MaxUnits)} {
			refused(t, w, path, demand, api.ErrMany)
		}
	}
	refusedWork(t, w)
	if after := picture(w, there); after != before {
		t.Errorf("P1: what was refused changed the tower from\n%s to\n%s", before, after)
	}
}

// TestRoomForOneMore: who has ended counts no longer, whether it was admitted or waited.
func TestRoomForOneMore(t *testing.T) {
	for _, gone := range []int{2, 4, 5, 6, api.MaxWork - 1, api.MaxWork} {
		w, _ := withWork(t)
		manyWork(t, w, 4)
		if _, e := w.Finish(gone); e != api.OK {
			t.Errorf("P6: Finish(%d) = %d, want OK", gone, e)
		}
		submits(t, w, "x/a", none, api.MaxWork+1, fmt.Sprintf("+%d", api.MaxWork+1))
		refused(t, w, "x/a", none, api.ErrMany)
		unknown(t, w, gone, api.MaxWork+2)
	}
}

func TestFinished(t *testing.T) {
	w, _ := withWork(t)
	ok(t)(w.Finish(2)) // it waited
	unknown(t, w, 2)
	uses(t, w, "a", am(1, 1))
	ok(t)(w.Finish(1)) // it was admitted
	unknown(t, w, 1, 2)
	uses(t, w, "a", none)
	uses(t, w, "", am(8, 3))
	ok(t)(w.Finish(4))
	ok(t)(w.Finish(3))
	unknown(t, w, 1, 2, 3, 4, 5)
	for _, path := range []string{"", "a", "x", "x/y/z/a"} {
		uses(t, w, path, none)
	}
	submits(t, w, "a", none, 5, "+5")
}

func TestFinishRefused(t *testing.T) {
	w, there := withWork(t)
	before := picture(w, there)
	unknown(t, w, noNumbers()...)
	unknown(t, w, 5, 6, 24, 25)
	if after := picture(w, there); after != before {
		t.Errorf("P1: what was refused changed the tower from\n%s to\n%s", before, after)
	}
	unknown(t, fresh(t), append(noNumbers(), 1, 2)...)
}
