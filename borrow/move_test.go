package borrow_test

import (
	"strings"
	"testing"

	"borrow/api"
	"borrow/borrow"
)

// P5: Move

func TestMoved(t *testing.T) {
	w, _ := withWork(t)
	ok(t)(w.Cohort("b", am(1, 1)))
	ok(t)(w.Move("x/y", "b"))
	for _, path := range []string{"x/y", "x/y/z", "x/y/z/a", "x/y/z/c"} {
		untold(t, w, path, api.ErrNone)
	}
	for _, q := range []api.Queue{
		{Nominal: am(18, 30), Usage: am(9, 4)},
		{Path: "x", Nominal: am(7, 8), Borrow: am(5, 6)},
		{Path: "x/a", Leaf: true, Nominal: am(7, 8)},
		{Path: "b", Nominal: am(10, 20), Borrow: am(1, 1), Usage: am(8, 3)},
		{Path: "b/y", Nominal: am(10, 20), Usage: am(8, 3)},
		{Path: "b/y/z", Nominal: am(10, 20), Borrow: am(9, 9), Usage: am(8, 3)},
		{Path: "b/y/z/a", Leaf: true, Nominal: am(10, 20), Borrow: am(30, 40), Usage: am(8, 3), Waiting: []int{4}},
		{Path: "b/y/z/c"},
	} {
		told(t, w, q)
	}
	works(t, w, 3, api.Work{Path: "b/y/z/a", Demand: am(8, 3), Admitted: true})
	works(t, w, 4, api.Work{Path: "b/y/z/a", Demand: am(0, 28)})
	refused(t, w, "x/y/z/a", none, api.ErrNone)
	submits(t, w, "b/y/z/a", am(2, 9), 5, "")
	does(t, "+5")(w.Finish(4))
	uses(t, w, "b", am(10, 12))
	uses(t, w, "x", none)
}

// TestMovedAbout: up to the root, down into a cohort, beside, and back again.
func TestMovedAbout(t *testing.T) {
	w, there := withWork(t)
	before := picture(w, there)
	for _, c := range []struct{ path, to, moved, back string }{
		{"x/y", "", "y", "x"},
		{"x/y/z", "", "z", "x/y"},
		{"x/y/z", "x", "x/z", "x/y"},
		{"x/y/z/c", "x", "x/c", "x/y/z"},
		{"x/y/z/c", "", "c", "x/y/z"},
		{"a", "x/y", "x/y/a", ""},
		{"x/a", "x/y/z/c", "", ""}, // too deep
		{"x/a", "x/y", "x/y/a", "x"},
	} {
		if c.moved == "" {
			no(t, api.ErrDeep)(w.Move(c.path, c.to))
			continue
		}
		ok(t)(w.Move(c.path, c.to))
		untold(t, w, c.path, api.ErrNone)
		if q, e := w.Queue(c.moved); q.Path != c.moved || e != api.OK {
			t.Errorf("P5: behind Move(%q, %q) Queue(%q) = %+v, %d", c.path, c.to, c.moved, q, e)
		}
		ok(t)(w.Move(c.moved, c.back))
		untold(t, w, c.moved, api.ErrNone)
		if after := picture(w, there); after != before {
			t.Fatalf("P5: moving %q to %q and back made of the tower\n%s\nthis:\n%s", c.path, c.to, before, after)
		}
	}
}

// TestMovedInAFullTower: no queue comes to it.
func TestMovedInAFullTower(t *testing.T) {
	w, there := sample(t)
	fill(t, w, len(there))
	ok(t)(w.Move("x/y/z/c", "fi"))
	ok(t)(w.Move("fj", "fi"))
	ok(t)(w.Move("fi", "x/y"))
	told(t, w, api.Queue{Path: "x/y/fi/c"})
	told(t, w, api.Queue{Path: "x/y/fi/fj"})
	no(t, api.ErrMany)(w.Cohort("fi", none))
	ok(t)(w.Remove("x/y/fi/c"))
	ok(t)(w.Cohort("fi", none))
	no(t, api.ErrMany)(w.Cohort("fj", none))
}

// TestThePlaceIsFree: where a queue hung another one can be made or moved to.
func TestThePlaceIsFree(t *testing.T) {
	w := fresh(t)
	ok(t)(w.Leaf("a", am(1, 0), none))
	ok(t)(w.Cohort("x", none))
	ok(t)(w.Cohort("y", none))
	ok(t)(w.Move("a", "x"))
	ok(t)(w.Leaf("a", am(2, 0), none))
	no(t, api.ErrThere)(w.Move("a", "x"))
	ok(t)(w.Move("a", "y"))
	ok(t)(w.Move("x/a", ""))
	ok(t)(w.Move("y/a", "x"))
	told(t, w, api.Queue{Path: "a", Leaf: true, Nominal: am(1, 0)})
	told(t, w, api.Queue{Path: "x/a", Leaf: true, Nominal: am(2, 0)})
	told(t, w, api.Queue{Path: "y"})
	untold(t, w, "y/a", api.ErrNone)
}

// refusedMove is a move that is refused: where several faults apply, by the first.
type refusedMove struct {
	path, to string
	want     api.Errno
}

// refusedMoves are those of the tower of withWork, whatever limits say.
func refusedMoves() []refusedMove {
	return []refusedMove{
		{"", "", api.ErrRoot},  // and a cycle
		{"", "x", api.ErrRoot}, // and a cycle
		{"", "x/y/z/c", api.ErrRoot},
		{"", "a", api.ErrRoot}, // and of a kind
		{"", "b", api.ErrRoot}, // and none
		{"b", "", api.ErrNone},
		{"b", "b", api.ErrNone},
		{"b", "c", api.ErrNone},
		{"b", "a", api.ErrNone},           // and of a kind
		{"a/a", "a", api.ErrNone},         // and of a kind
		{"x/b", "x", api.ErrNone},         // it would hang there
		{"x/y/z/c/a", "x", api.ErrNone},   // there is such a name
		{"b/c/d/e/f", "x", api.ErrNone},   // too deep to be there
		{"a", "b", api.ErrNone},           // no queue to
		{"a", "x/b", api.ErrNone},         // nor here
		{"a", "a/b", api.ErrNone},         // nor below itself
		{"x", "x/b", api.ErrNone},         // nor here
		{"x", "b/c/d/e/f", api.ErrNone},   // too deep to be there
		{"x/y", "x/y/z/a/b", api.ErrNone}, // below a leaf
		{"x", "a", api.ErrKind},
		{"a", "a", api.ErrKind},         // and itself
		{"x/a", "a", api.ErrKind},       // of its own name
		{"x", "x/a", api.ErrKind},       // and below it
		{"x", "x/y/z/a", api.ErrKind},   // and below it
		{"x/y", "x/y/z/a", api.ErrKind}, // and below it
		{"x/y/z/c", "x/y/z/a", api.ErrKind},
		{"x", "x", api.ErrCycle},
		{"x", "x/y", api.ErrCycle},
		{"x", "x/y/z", api.ErrCycle},
		{"x", "x/y/z/c", api.ErrCycle}, // and deep
		{"x/y", "x/y", api.ErrCycle},
		{"x/y/z", "x/y/z/c", api.ErrCycle}, // and deep
		{"x/y/z/c", "x/y/z/c", api.ErrCycle},
		{"a", "", api.ErrThere}, // where it hangs
		{"x", "", api.ErrThere},
		{"x/a", "x", api.ErrThere},
		{"x/y/z", "x/y", api.ErrThere},
		{"x/y/z/c", "x/y/z", api.ErrThere},
		{"x/a", "", api.ErrThere}, // another one of its name
		{"a", "x", api.ErrThere},
		{"a", "x/y/z", api.ErrThere},
		{"x/y/z/a", "", api.ErrThere},
		{"x/y/z/a", "x", api.ErrThere},
		{"a", "x/y/z/c", api.ErrDeep},
		{"x/a", "x/y/z/c", api.ErrDeep},
		{"x/y/z/a", "x/y/z/c", api.ErrDeep},
	}
}

func TestMoveRefused(t *testing.T) {
	w, there := withWork(t)
	before := picture(w, there)
	for _, c := range refusedMoves() {
		no(t, c.want)(w.Move(c.path, c.to))
		if t.Failed() {
			t.Fatalf("P5: so it is with Move(%q, %q)", c.path, c.to)
		}
	}
	for _, text := range noPaths() {
		for _, path := range []string{"", "a", "x", "x/y", "b", "a/b/c/d/e", "A"} {
			no(t, api.ErrPath)(w.Move(text, path))
			no(t, api.ErrPath)(w.Move(path, text))
		}
		no(t, api.ErrPath)(w.Move(text, text))
	}
	if after := picture(w, there); after != before {
		t.Errorf("P1: what was refused changed the tower from\n%s to\n%s", before, after)
	}
}

// TestCycleComesAheadOfThere: where to is the queue itself or lies below it, and one of its name is in that.
func TestCycleComesAheadOfThere(t *testing.T) {
	w := fresh(t)
	for _, path := range []string{"x", "x/x", "x/x/x", "xx"} {
		ok(t)(w.Cohort(path, none))
	}
	no(t, api.ErrCycle)(w.Move("x", "x"))
	no(t, api.ErrCycle)(w.Move("x", "x/x"))
	no(t, api.ErrCycle)(w.Move("x/x", "x/x"))
	no(t, api.ErrThere)(w.Move("x/x", "x"))
	no(t, api.ErrThere)(w.Move("x/x/x", "x"))
	ok(t)(w.Move("x", "xx")) // which begins like it, but does not lie below it
	told(t, w, api.Queue{Path: "xx/x/x/x"})
}

// tall makes a tower of cohorts, one in the other, and gives the path of the last one.
func tall(t *testing.T, w *borrow.Tower, name string, names int) string {
	t.Helper()
	path := name
	for range names - 1 {
		ok(t)(w.Cohort(path, none))
		path += "/" + name
	}
	ok(t)(w.Cohort(path, none))
	return path
}

// TestDepth: what is as high as so many names goes into what leaves just so many.
func TestDepth(t *testing.T) {
	for high := 1; high <= api.MaxDepth; high++ {
		for deep := 1; deep <= api.MaxDepth; deep++ {
			w := fresh(t)
			tall(t, w, "a", high)
			to := tall(t, w, "b", deep)
			if high+deep > api.MaxDepth {
				no(t, api.ErrDeep)(w.Move("a", to))
				told(t, w, api.Queue{Path: strings.TrimPrefix(strings.Repeat("/a", high), "/")})
				untold(t, w, to+"/a", api.ErrNone)
				continue
			}
			ok(t)(w.Move("a", to))
			told(t, w, api.Queue{Path: to + strings.Repeat("/a", high)})
			untold(t, w, "a", api.ErrNone)
		}
	}
}

// TestDepthOfAnyBelow: the deepest one counts, be it the first, the last or one between, and a leaf as a cohort.
func TestDepthOfAnyBelow(t *testing.T) {
	for _, deepest := range []string{"x/a", "x/c", "x/e"} {
		w := fresh(t)
		to := tall(t, w, "y", 2)
		ok(t)(w.Cohort("x", none))
		for _, path := range []string{"x/b", "x/d"} {
			ok(t)(w.Leaf(path, am(1, 1), none))
		}
		ok(t)(w.Cohort(deepest, none))
		ok(t)(w.Leaf(deepest+"/a", none, none))
		no(t, api.ErrDeep)(w.Move("x", to)) // 5 names
		ok(t)(w.Move(deepest+"/a", ""))
		ok(t)(w.Move("x", to))
		told(t, w, api.Queue{Path: to, Nominal: am(2, 2)})
		no(t, api.ErrDeep)(w.Move("a", to+"/"+deepest))
	}
}

// TestUpFromTheDepth: what it had of names where it hung does not count.
func TestUpFromTheDepth(t *testing.T) {
	w := fresh(t)
	ok(t)(w.Cohort("b", none))
	ok(t)(w.Cohort("b/c", none))
	tall(t, w, "a", 4)
	ok(t)(w.Move("a/a/a", "b")) // two names of it, one of the other
	told(t, w, api.Queue{Path: "b/a/a"})
	ok(t)(w.Move("b/a", "b/c"))
	told(t, w, api.Queue{Path: "b/c/a/a"})
	no(t, api.ErrDeep)(w.Move("b", "a"))
	ok(t)(w.Move("b/c", "a"))
	told(t, w, api.Queue{Path: "a/c/a/a"})
}

// TestDeepComesAheadOfOver and behind that there is one of its name.
func TestDeepComesAheadOfOver(t *testing.T) {
	w := fresh(t)
	ok(t)(w.Cohort("x", none))
	ok(t)(w.Leaf("x/a", am(10, 10), none))
	ok(t)(w.Leaf("x/b", none, am(10, 10)))
	submits(t, w, "x/b", am(10, 0), 1, "+1")
	to := tall(t, w, "y", 4)
	no(t, api.ErrDeep)(w.Move("x/a", to)) // x would have nothing
	no(t, api.ErrDeep)(w.Move("x/b", to)) // y has nothing
	no(t, api.ErrOver)(w.Move("x/a", "y/y/y"))
	no(t, api.ErrOver)(w.Move("x/b", "y/y/y"))
	ok(t)(w.Cohort("y/y/y/x", none))
	no(t, api.ErrThere)(w.Move("x", "y/y/y"))
	ok(t)(w.Leaf("y/y/y/a", none, none))
	no(t, api.ErrThere)(w.Move("x/a", "y/y/y"))
	no(t, api.ErrThere)(w.Move("x/a", "x"))
}
