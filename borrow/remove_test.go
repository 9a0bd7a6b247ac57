package borrow_test

import (
	"testing"
	"unsafe"

	"borrow/api"
	"borrow/borrow"
)

// P5: Remove

func TestRemoved(t *testing.T) {
	w, _ := withWork(t)
	ok(t)(w.Remove("x/a"))
	untold(t, w, "x/a", api.ErrNone)
	no(t, api.ErrNone)(w.Remove("x/a"))
	refused(t, w, "x/a", none, api.ErrNone)
	told(t, w, api.Queue{Path: "x", Nominal: am(10, 20), Borrow: am(5, 6), Usage: am(8, 3)})
	told(t, w, api.Queue{Nominal: am(11, 22), Usage: am(9, 4)})
	ok(t)(w.Remove("x/y/z/c"))
	untold(t, w, "x/y/z/c", api.ErrNone)
	told(t, w, api.Queue{Path: "x/y/z/a", Leaf: true, Nominal: am(10, 20), Borrow: am(30, 40), Usage: am(8, 3), Waiting: []int{4}})
	told(t, w, api.Queue{Path: "a", Leaf: true, Nominal: am(1, 2), Borrow: am(3, 4), Usage: am(1, 1), Waiting: []int{2}})
}

// TestRemovedToTheRoot: from the deepest on, as each is no longer busy.
func TestRemovedToTheRoot(t *testing.T) {
	w, there := sample(t)
	for _, path := range []string{"x/y/z/a", "x/y/z/c", "x/y/z", "x/y", "x/a", "x", "a"} {
		ok(t)(w.Remove(path))
		untold(t, w, path, api.ErrNone)
	}
	told(t, w, api.Queue{})
	for _, path := range there[1:] {
		no(t, api.ErrNone)(w.Remove(path))
	}
	no(t, api.ErrRoot)(w.Remove(""))
}

// TestMadeAgain: what is no more leaves its path free, for a queue of either kind, with nothing of the old one.
func TestMadeAgain(t *testing.T) {
	w := fresh(t)
	ok(t)(w.Leaf("a", am(5, 5), am(6, 6)))
	submits(t, w, "a", am(1, 1), 1, "+1")
	submits(t, w, "a", am(99, 1), 2, "")
	ok(t)(w.Finish(1))
	ok(t)(w.Finish(2))
	ok(t)(w.Remove("a"))
	ok(t)(w.Cohort("a", am(7, 7)))
	told(t, w, api.Queue{Path: "a", Borrow: am(7, 7)})
	ok(t)(w.Leaf("a/a", am(1, 0), none))
	ok(t)(w.Remove("a/a"))
	ok(t)(w.Remove("a"))
	ok(t)(w.Leaf("a", am(2, 2), none))
	told(t, w, api.Queue{Path: "a", Leaf: true, Nominal: am(2, 2)})
	submits(t, w, "a", am(2, 2), 3, "+3")
	unknown(t, w, 1, 2)
}

// TestRoomForOneMoreQueue: what is no more counts no longer.
func TestRoomForOneMoreQueue(t *testing.T) {
	for _, path := range []string{"x/a", "x/y/z/c", "fi"} {
		w, there := sample(t)
		fill(t, w, len(there))
		no(t, api.ErrMany)(w.Cohort("b", none))
		ok(t)(w.Remove(path))
		ok(t)(w.Leaf("b", none, none))
		no(t, api.ErrMany)(w.Leaf("c", none, none))
	}
}

// TestRemoveOnlyThat: not one whose name is like it, nor the same name elsewhere.
func TestRemoveOnlyThat(t *testing.T) {
	paths := []string{"b", "a", "aa", "ab", "x", "x/a", "x/b", "x/x"}
	for _, gone := range []string{"b", "a", "aa", "ab", "x/a", "x/b", "x/x"} {
		w := fresh(t)
		for _, path := range paths {
			ok(t)(w.Cohort(path, none))
		}
		ok(t)(w.Remove(gone))
		for _, path := range paths {
			if path == gone {
				untold(t, w, path, api.ErrNone)
			} else {
				told(t, w, api.Queue{Path: path})
			}
		}
	}
}

// refusedRemoves is what cannot be removed from the tower of withWork, whatever limits say.
func refusedRemoves(t *testing.T, w *borrow.Tower) {
	t.Helper()
	for _, text := range noPaths() {
		no(t, api.ErrPath)(w.Remove(text))
	}
	no(t, api.ErrRoot)(w.Remove("")) // and busy
	for _, path := range []string{"b", "y", "x/b", "a/a", "a/b", "x/x", "x/y/z/a/b", "x/y/z/c/a", "a/b/c/d/e", "b/c/d/e/f/g"} {
		no(t, api.ErrNone)(w.Remove(path))
	}
	for _, path := range []string{"x", "x/y", "x/y/z", "a", "x/y/z/a"} {
		no(t, api.ErrBusy)(w.Remove(path))
	}
}

func TestRemoveRefused(t *testing.T) {
	w, there := withWork(t)
	before := picture(w, there)
	refusedRemoves(t, w)
	if after := picture(w, there); after != before {
		t.Errorf("P1: what was refused changed the tower from\n%s to\n%s", before, after)
	}
	no(t, api.ErrRoot)(fresh(t).Remove(""))
}

// TestBusy: with a queue below it that has nothing itself, with one that waits alone, with one that is admitted alone,
// with one that asks for nothing.
func TestBusy(t *testing.T) {
	w := fresh(t)
	ok(t)(w.Cohort("x", none))
	ok(t)(w.Cohort("x/y", none))
	no(t, api.ErrBusy)(w.Remove("x"))
	ok(t)(w.Remove("x/y"))
	ok(t)(w.Leaf("x/a", none, none))
	no(t, api.ErrBusy)(w.Remove("x"))
	submits(t, w, "x/a", none, 1, "+1")
	no(t, api.ErrBusy)(w.Remove("x/a"))
	ok(t)(w.Finish(1))
	submits(t, w, "x/a", am(1, 0), 2, "")
	no(t, api.ErrBusy)(w.Remove("x/a"))
	ok(t)(w.Finish(2))
	ok(t)(w.Quota("x/a", am(1, 1), none))
	submits(t, w, "x/a", am(1, 0), 3, "+3")
	no(t, api.ErrBusy)(w.Remove("x/a"))
	ok(t)(w.Finish(3))
	ok(t)(w.Remove("x/a"))
	ok(t)(w.Remove("x"))
}

// TestBusyComesAheadOfOver: where both apply.
func TestBusyComesAheadOfOver(t *testing.T) {
	w := fresh(t)
	ok(t)(w.Leaf("a", am(10, 10), none))
	ok(t)(w.Leaf("b", none, am(10, 10)))
	submits(t, w, "b", am(10, 0), 1, "+1")
	submits(t, w, "a", am(11, 0), 2, "")
	no(t, api.ErrBusy)(w.Remove("a"))
	ok(t)(w.Finish(2))
	no(t, api.ErrOver)(w.Remove("a"))
	ok(t)(w.Finish(1))
	ok(t)(w.Remove("a"))
	told(t, w, api.Queue{})
}

// TestNoPathIsKept writes over a path after it was handed in, and the change was refused or done.
func TestNoPathIsKept(t *testing.T) {
	w := fresh(t)
	ok(t)(w.Cohort("x", none))
	ok(t)(w.Leaf("x/abc", am(10, 10), none))
	ok(t)(w.Leaf("x/b", none, am(10, 10)))
	submits(t, w, "x/b", am(10, 0), 1, "+1")
	bytes := []byte("x/abc")
	path := unsafe.String(&bytes[0], len(bytes))
	no(t, api.ErrOver)(w.Remove(path))
	no(t, api.ErrOver)(w.Move(path, ""))
	no(t, api.ErrOver)(w.Quota(path, none, none))
	copy(bytes, "y/xyz")
	told(t, w, api.Queue{Path: "x/abc", Leaf: true, Nominal: am(10, 10)})
	untold(t, w, "x/xyz", api.ErrNone)
	ok(t)(w.Finish(1))
	copy(bytes, "x/abc")
	ok(t)(w.Move(path, ""))
	copy(bytes, "y/xyz")
	told(t, w, api.Queue{Path: "abc", Leaf: true, Nominal: am(10, 10)})
	untold(t, w, "xyz", api.ErrNone)
}
