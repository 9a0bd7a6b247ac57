package borrow_test

import (
	"strings"
	"testing"

	"borrow/api"
	"borrow/borrow"
)

// P3

func TestNewIsTheRootAlone(t *testing.T) {
	w := fresh(t)
	told(t, w, api.Queue{})
	for _, path := range []string{"a", "root", "x/a", "a/b/c/d"} {
		untold(t, w, path, api.ErrNone)
	}
	fill(t, w, 1)
	no(t, api.ErrMany)(w.Cohort("a", none))
}

func TestNewIsNewEachTime(t *testing.T) {
	a := fresh(t)
	ok(t)(a.Leaf("a", am(1, 2), am(3, 4)))
	b := fresh(t)
	if a == b {
		t.Error("P3: New() gave the same tower twice")
	}
	told(t, b, api.Queue{})
	untold(t, b, "a", api.ErrNone)
}

// P4

func TestCreated(t *testing.T) {
	w := fresh(t)
	ok(t)(w.Cohort("x", am(5, 6)))
	ok(t)(w.Leaf("x/a", am(10, 11), am(1, 2)))
	ok(t)(w.Leaf("x/b", am(20, 0), am(0, 7)))
	ok(t)(w.Leaf("c", am(3, 4), none))
	told(t, w, api.Queue{Path: "x", Nominal: am(30, 11), Borrow: am(5, 6)})
	told(t, w, api.Queue{Path: "x/a", Leaf: true, Nominal: am(10, 11), Borrow: am(1, 2)})
	told(t, w, api.Queue{Path: "x/b", Leaf: true, Nominal: am(20, 0), Borrow: am(0, 7)})
	told(t, w, api.Queue{Path: "c", Leaf: true, Nominal: am(3, 4)})
	told(t, w, api.Queue{Nominal: am(33, 15)})
}

func TestAmountsOfNothingAndOfMost(t *testing.T) {
	most := am(api.MaxUnits, api.MaxUnits)
	for i, amount := range []api.Amount{none, am(1, 1), am(api.MaxUnits, 0), am(0, api.MaxUnits), am(999, 999), most} {
		w := fresh(t)
		ok(t)(w.Cohort("x", amount))
		ok(t)(w.Leaf("a", amount, most))
		ok(t)(w.Leaf("b", most, amount))
		if i == 0 {
			ok(t)(w.Leaf("c", none, none))
		}
		told(t, w, api.Queue{Path: "x", Borrow: amount})
		told(t, w, api.Queue{Path: "a", Leaf: true, Nominal: amount, Borrow: most})
		told(t, w, api.Queue{Path: "b", Leaf: true, Nominal: most, Borrow: amount})
	}
}

func TestAmountsThatMayNotBe(t *testing.T) {
	w := fresh(t)
	for _, amount := range noAmounts() {
		no(t, api.ErrArg)(w.Cohort("a", amount))
		no(t, api.ErrArg)(w.Leaf("a", amount, none))
		no(t, api.ErrArg)(w.Leaf("a", none, amount))
		no(t, api.ErrArg)(w.Leaf("a", amount, amount))
	}
	told(t, w, api.Queue{})
	untold(t, w, "a", api.ErrNone)
}

func TestNamesOfEachLength(t *testing.T) {
	w := fresh(t)
	ok(t)(w.Cohort("x", none))
	for n := 1; n <= api.MaxName; n++ {
		leaf, cohort := strings.Repeat("a", n), "x/"+strings.Repeat("z", n)
		ok(t)(w.Leaf(leaf, am(n, 0), none))
		ok(t)(w.Cohort(cohort, am(0, n)))
		told(t, w, api.Queue{Path: leaf, Leaf: true, Nominal: am(n, 0)})
		told(t, w, api.Queue{Path: cohort, Borrow: am(0, n)})
	}
	for n := api.MaxName + 1; n < 300; n++ {
		no(t, api.ErrPath)(w.Leaf(strings.Repeat("a", n), none, none))
		no(t, api.ErrPath)(w.Cohort("x/"+strings.Repeat("z", n), none))
	}
}

func TestEachByteInAName(t *testing.T) {
	for place := range api.MaxName {
		for b := range 256 {
			name := []byte("mmmm")
			name[place] = byte(b)
			want := api.ErrPath
			if 'a' <= b && b <= 'z' {
				want = api.OK
			}
			if b == '/' && place > 0 && place < 3 {
				want = api.ErrNone
			}
			w := fresh(t)
			no(t, want)(w.Cohort(string(name), none))
			w = fresh(t)
			no(t, want)(w.Leaf(string(name), none, none))
		}
	}
}

func TestPathsOfMaxDepthNames(t *testing.T) {
	w := fresh(t)
	path := ""
	for i := range api.MaxDepth {
		path = strings.TrimPrefix(path+"/abcd", "/")
		ok(t)(w.Cohort(path, am(i, 0)))
		told(t, w, api.Queue{Path: path, Borrow: am(i, 0)})
	}
	no(t, api.ErrDeep)(w.Cohort(path+"/a", none))
	no(t, api.ErrDeep)(w.Leaf(path+"/a", none, none))
	no(t, api.ErrDeep)(w.Leaf(strings.Repeat("a/", 1<<18)+"a", none, none))
	ok(t)(w.Leaf("abcd/abcd/abcd/e", am(1, 2), none))
	told(t, w, api.Queue{Path: "abcd/abcd/abcd/e", Leaf: true, Nominal: am(1, 2)})
	told(t, w, api.Queue{Nominal: am(1, 2)})
}

func TestMaxQueuesAreThere(t *testing.T) {
	w := fresh(t)
	ok(t)(w.Cohort("x", none))
	ok(t)(w.Cohort("x/y", none))
	for i := 3; i < api.MaxQueues; i++ {
		ok(t)(w.Leaf("x/y/"+string(rune('a'+i)), am(api.MaxUnits, i), none))
	}
	no(t, api.ErrMany)(w.Leaf("x/y/a", none, none))
	no(t, api.ErrMany)(w.Cohort("x/y/a", none))
	no(t, api.ErrMany)(w.Leaf("x/a", none, none))
	no(t, api.ErrMany)(w.Cohort("a", none))
	untold(t, w, "x/y/a", api.ErrNone)
	untold(t, w, "a", api.ErrNone)
	told(t, w, api.Queue{Path: "x/y", Nominal: am(17*api.MaxUnits, 187)})
	told(t, w, api.Queue{Path: "x", Nominal: am(17*api.MaxUnits, 187)})
	told(t, w, api.Queue{Nominal: am(17*api.MaxUnits, 187)})
}

func TestTheSameNameInSeveralCohorts(t *testing.T) {
	w := fresh(t)
	ok(t)(w.Cohort("x", am(1, 0)))
	ok(t)(w.Cohort("x/x", am(2, 0)))
	ok(t)(w.Leaf("x/x/x", am(1, 1), am(3, 0)))
	ok(t)(w.Cohort("y", none))
	ok(t)(w.Leaf("y/x", am(2, 2), am(4, 0)))
	ok(t)(w.Leaf("xx", am(4, 4), am(5, 0)))
	no(t, api.ErrThere)(w.Leaf("y/x", none, none))
	no(t, api.ErrThere)(w.Cohort("x/x/x", none))
	told(t, w, api.Queue{Path: "x", Nominal: am(1, 1), Borrow: am(1, 0)})
	told(t, w, api.Queue{Path: "x/x", Nominal: am(1, 1), Borrow: am(2, 0)})
	told(t, w, api.Queue{Path: "x/x/x", Leaf: true, Nominal: am(1, 1), Borrow: am(3, 0)})
	told(t, w, api.Queue{Path: "y/x", Leaf: true, Nominal: am(2, 2), Borrow: am(4, 0)})
	told(t, w, api.Queue{Path: "xx", Leaf: true, Nominal: am(4, 4), Borrow: am(5, 0)})
	told(t, w, api.Queue{Nominal: am(7, 7)})
}

// refusal is a creation that is refused: where both or all of its faults apply, by the first.
type refusal struct {
	path string
	want api.Errno
	bad  bool // with an amount that may not be
}

// refuse tries a refusal as each call that can make a queue.
func refuse(t *testing.T, w *borrow.Tower, r refusal) {
	t.Helper()
	amounts := []api.Amount{none, am(1, 1), am(api.MaxUnits, api.MaxUnits)}
	if r.bad {
		amounts = noAmounts()
	}
	for _, amount := range amounts {
		no(t, r.want)(w.Cohort(r.path, amount))
		no(t, r.want)(w.Leaf(r.path, amount, am(1, 1)))
		no(t, r.want)(w.Leaf(r.path, am(1, 1), amount))
		if t.Failed() {
			t.Fatalf("P4: so it is of %.40q with %v", r.path, amount)
		}
	}
}

// sample makes a tower with a leaf and a cohort at the top and at the greatest depth: 8 queues.
func sample(t *testing.T) (*borrow.Tower, []string) {
	w := fresh(t)
	ok(t)(w.Leaf("a", am(1, 2), am(3, 4)))
	ok(t)(w.Cohort("x", am(5, 6)))
	ok(t)(w.Leaf("x/a", am(7, 8), none))
	ok(t)(w.Cohort("x/y", none))
	ok(t)(w.Cohort("x/y/z", am(9, 9)))
	ok(t)(w.Leaf("x/y/z/a", am(10, 20), am(30, 40)))
	ok(t)(w.Cohort("x/y/z/c", none))
	return w, []string{"", "a", "x", "x/a", "x/y", "x/y/z", "x/y/z/a", "x/y/z/c"}
}

func refusals() []refusal {
	return []refusal{
		{path: "", want: api.ErrRoot},
		{path: "", want: api.ErrRoot, bad: true},
		{path: "b", want: api.ErrArg, bad: true},
		{path: "a/b/c/d/e", want: api.ErrArg, bad: true}, // and deep
		{path: "x", want: api.ErrArg, bad: true},         // and there
		{path: "a", want: api.ErrArg, bad: true},         // and there
		{path: "y/a", want: api.ErrArg, bad: true},       // and none
		{path: "a/b", want: api.ErrArg, bad: true},       // and of a kind
		{path: "x/y/z/c/e", want: api.ErrDeep},
		{path: "x/y/z/a/e", want: api.ErrDeep},                // and of a kind
		{path: "b/c/d/e/f", want: api.ErrDeep},                // and none
		{path: "x/b/c/d/e/f/g", want: api.ErrDeep},            // and none
		{path: "abcd/abcd/abcd/abcd/abcd", want: api.ErrDeep}, // and none
		{path: "a", want: api.ErrThere},
		{path: "x", want: api.ErrThere},
		{path: "x/a", want: api.ErrThere},
		{path: "x/y", want: api.ErrThere},
		{path: "x/y/z/a", want: api.ErrThere},
		{path: "x/y/z/c", want: api.ErrThere},
		{path: "y/a", want: api.ErrNone},
		{path: "xx/a", want: api.ErrNone},
		{path: "y/a/b/c", want: api.ErrNone},
		{path: "x/b/c", want: api.ErrNone},
		{path: "x/x/y", want: api.ErrNone},
		{path: "a/b/c", want: api.ErrNone}, // a leaf, but it would not hang in that
		{path: "x/a/b/c", want: api.ErrNone},
		{path: "a/b", want: api.ErrKind},
		{path: "a/a", want: api.ErrKind},
		{path: "x/a/b", want: api.ErrKind},
		{path: strings.Repeat("a/", 99) + "b", want: api.ErrDeep},
	}
}

func TestRefusedByTheFirstFault(t *testing.T) {
	w, there := sample(t)
	before := picture(w, there)
	for _, r := range refusals() {
		refuse(t, w, r)
	}
	for _, text := range noPaths() {
		refuse(t, w, refusal{path: text, want: api.ErrPath})
	}
	for _, text := range []string{"/", "x/", "a//b", "A", "abcde", "a/b/c/d/e/F", "x/y/z/c/"} {
		refuse(t, w, refusal{path: text, want: api.ErrPath, bad: true})
	}
	if after := picture(w, there); after != before {
		t.Errorf("P1: what was refused changed the tower from\n%s to\n%s", before, after)
	}
	for _, path := range []string{"b", "y", "y/a", "a/b", "x/b", "x/y/z/c/e"} {
		untold(t, w, path, api.ErrNone)
	}
	fill(t, w, len(there))
	no(t, api.ErrMany)(w.Cohort("b", none))
}

// TestRefusedInAFullTower: that there are too many is the last of all faults.
func TestRefusedInAFullTower(t *testing.T) {
	w, there := sample(t)
	fill(t, w, len(there))
	before := picture(w, there)
	for _, r := range refusals() {
		refuse(t, w, r)
	}
	for _, text := range []string{"/", "b/", "B", "abcde", "x/B"} {
		refuse(t, w, refusal{path: text, want: api.ErrPath})
	}
	for _, path := range []string{"b", "x/b", "x/y/b", "x/y/z/b"} {
		refuse(t, w, refusal{path: path, want: api.ErrMany})
		untold(t, w, path, api.ErrNone)
	}
	if after := picture(w, there); after != before {
		t.Errorf("P1: what was refused changed the tower from\n%s to\n%s", before, after)
	}
}

// example is the tower of the examples of DOC.md.
func example(t *testing.T) *borrow.Tower {
	t.Helper()
	w := fresh(t)
	ok(t)(w.Cohort("x", am(5, 5)))
	ok(t)(w.Leaf("x/a", am(10, 10), none))
	ok(t)(w.Leaf("x/b", am(10, 10), am(20, 20)))
	ok(t)(w.Leaf("c", am(10, 10), am(10, 10)))
	return w
}

// TestExamples: those of DOC.md that make queues.
func TestExamples(t *testing.T) {
	w := example(t)
	told(t, w, api.Queue{Path: "x", Nominal: am(20, 20), Borrow: am(5, 5)})
	told(t, w, api.Queue{Nominal: am(30, 30)})
	no(t, api.ErrKind)(w.Leaf("x/b/d", none, none))
	no(t, api.ErrNone)(w.Leaf("y/d", none, none))
	no(t, api.ErrDeep)(w.Cohort("a/b/c/d/e", none))
	no(t, api.ErrRoot)(w.Cohort("", none))
	for _, text := range []string{"x/", "X", "abcde"} {
		no(t, api.ErrPath)(w.Cohort(text, none))
	}
}
