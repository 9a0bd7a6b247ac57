package borrow_test

import (
	"iter"
	"slices"
	"strings"
	"testing"

	"borrow/api"
	"borrow/borrow"
)

// P10

// gives goes through an iterator that is to give these queues.
func gives(t *testing.T, seq iter.Seq[api.Queue], want []api.Queue) {
	t.Helper()
	if got := slices.Collect(seq); !slices.EqualFunc(got, want, same) {
		t.Errorf("P10: All() gave\n%+v, want\n%+v", got, want)
	}
}

// asTold is what Queue tells of these paths.
func asTold(t *testing.T, w *borrow.Tower, paths ...string) []api.Queue {
	t.Helper()
	var list []api.Queue
	for _, path := range paths {
		q, e := w.Queue(path)
		if q.Path != path || e != api.OK {
			t.Errorf("P9: Queue(%q) = %+v, %d", path, q, e)
		}
		list = append(list, q)
	}
	return list
}

// order goes through all queues, which are to have these paths, in this order, and to be as Queue tells them.
func order(t *testing.T, w *borrow.Tower, paths ...string) {
	t.Helper()
	gives(t, w.All(), asTold(t, w, paths...))
}

// cohorts makes queues in this order.
func cohorts(t *testing.T, w *borrow.Tower, paths ...string) {
	t.Helper()
	for _, path := range paths {
		ok(t)(w.Cohort(path, none))
	}
}

// leaves makes queues in this order, which differ in what they have.
func leaves(t *testing.T, w *borrow.Tower, paths ...string) {
	t.Helper()
	for i, path := range paths {
		ok(t)(w.Leaf(path, am(i, 1), am(1, i)))
	}
}

func TestTheRootAlone(t *testing.T) {
	w := fresh(t)
	for range 2 {
		gives(t, w.All(), []api.Queue{{}})
	}
	leaves(t, w, "a")
	ok(t)(w.Remove("a"))
	gives(t, w.All(), []api.Queue{{}})
}

// TestByTheirNames: whichever was made first, and of what kind it is; each with all below it.
func TestByTheirNames(t *testing.T) {
	w := fresh(t)
	leaves(t, w, "b", "abcd", "z")
	cohorts(t, w, "abc", "a", "m")
	leaves(t, w, "ab", "aaaa", "m/z", "m/a", "abc/zzzz", "a/zz", "a/a")
	cohorts(t, w, "a/b", "a/ab")
	leaves(t, w, "a/b/c", "a/ab/z")
	order(t, w, "", "a", "a/a", "a/ab", "a/ab/z", "a/b", "a/b/c", "a/zz", "aaaa", "ab", "abc", "abc/zzzz", "abcd", "b", "m", "m/a", "m/z", "z")
}

// TestOneNameBeginsWithTheOther: the shorter one, with all below it, comes first, made first or last.
func TestOneNameBeginsWithTheOther(t *testing.T) {
	names := []string{"x", "xx", "xxa", "xxaa", "xz", "xza"}
	for _, made := range [][]int{{0, 1, 2, 3, 4, 5}, {5, 4, 3, 2, 1, 0}, {3, 1, 5, 0, 2, 4}, {2, 4, 0, 5, 1, 3}} {
		w := fresh(t)
		for _, i := range made {
			cohorts(t, w, names[i])
			leaves(t, w, names[i]+"/zzzz", names[i]+"/a")
		}
		want := []string{""}
		for _, name := range names {
			want = append(want, name, name+"/a", name+"/zzzz")
		}
		order(t, w, want...)
	}
}

// TestTheSameNameAtEachDepth: a queue is told where it hangs.
func TestTheSameNameAtEachDepth(t *testing.T) {
	w := fresh(t)
	cohorts(t, w, "b", "a", "b/a", "a/a", "a/b", "a/a/a")
	leaves(t, w, "b/b", "b/a/a", "a/a/a/a", "a/b/a", "a/a/a/b", "a/a/b")
	order(t, w, "", "a", "a/a", "a/a/a", "a/a/a/a", "a/a/a/b", "a/a/b", "a/b", "a/b/a", "b", "b/a", "b/a/a", "b/b")
}

// TestMovedAndRemoved: the order is that of the names as they hang now.
func TestMovedAndRemoved(t *testing.T) {
	w := fresh(t)
	cohorts(t, w, "x", "x/y", "m")
	leaves(t, w, "a", "x/b", "x/y/a", "x/y/c", "xa")
	order(t, w, "", "a", "m", "x", "x/b", "x/y", "x/y/a", "x/y/c", "xa")
	ok(t)(w.Move("x/y", ""))
	order(t, w, "", "a", "m", "x", "x/b", "xa", "y", "y/a", "y/c")
	ok(t)(w.Move("x", "m"))
	order(t, w, "", "a", "m", "m/x", "m/x/b", "xa", "y", "y/a", "y/c")
	ok(t)(w.Move("m", "y"))
	order(t, w, "", "a", "xa", "y", "y/a", "y/c", "y/m", "y/m/x", "y/m/x/b")
	ok(t)(w.Move("a", "y/m"))
	ok(t)(w.Remove("y/c"))
	order(t, w, "", "xa", "y", "y/a", "y/m", "y/m/a", "y/m/x", "y/m/x/b")
	ok(t)(w.Remove("y/m/x/b"))
	ok(t)(w.Move("y/m/x", ""))
	ok(t)(w.Remove("y/a"))
	order(t, w, "", "x", "xa", "y", "y/m", "y/m/a")
	leaves(t, w, "x/b", "y/a", "a")
	order(t, w, "", "a", "x", "x/b", "xa", "y", "y/a", "y/m", "y/m/a")
	no(t, api.ErrThere)(w.Move("a", ""))
	no(t, api.ErrBusy)(w.Remove("y"))
	order(t, w, "", "a", "x", "x/b", "xa", "y", "y/a", "y/m", "y/m/a")
}

// busy is the tower of the examples, in which one leaf borrows, one uses its own, and some wait, one of them put out;
// beside it stands what it holds, in the order of P10.
func busy(t *testing.T) (*borrow.Tower, []api.Queue) {
	t.Helper()
	w := example(t)
	ok(t)(w.Leaf("xy", none, none))
	ok(t)(w.Cohort("x/e", am(1, 2)))
	submits(t, w, "x/b", am(15, 5), 1, "+1")
	submits(t, w, "c", am(30, 0), 2, "")
	submits(t, w, "x/b", am(8, 1), 3, "+3")
	submits(t, w, "x/b", am(3, 1), 4, "")
	submits(t, w, "x/a", am(10, 0), 5, "-3+5")
	submits(t, w, "c", am(0, 1), 6, "")
	ok(t)(w.Finish(4))
	submits(t, w, "x/b", am(1, 1), 7, "")
	return w, []api.Queue{
		{Nominal: am(30, 30), Usage: am(25, 5)},
		{Path: "c", Leaf: true, Nominal: am(10, 10), Borrow: am(10, 10), Waiting: []int{2, 6}},
		{Path: "x", Nominal: am(20, 20), Borrow: am(5, 5), Usage: am(25, 5)},
		{Path: "x/a", Leaf: true, Nominal: am(10, 10), Usage: am(10, 0)},
		{Path: "x/b", Leaf: true, Nominal: am(10, 10), Borrow: am(20, 20), Usage: am(15, 5), Waiting: []int{3, 7}},
		{Path: "x/e", Borrow: am(1, 2)},
		{Path: "xy", Leaf: true},
	}
}

// pathsOf are those of queues.
func pathsOf(queues []api.Queue) []string {
	var list []string
	for _, q := range queues {
		list = append(list, q.Path)
	}
	return list
}

func TestEachQueueAsItIsTold(t *testing.T) {
	w, want := busy(t)
	gives(t, w.All(), want)
	order(t, w, pathsOf(want)...)
}

// TestTheHeadFirst: who was put out last stands ahead of all, whatever its number is.
func TestTheHeadFirst(t *testing.T) {
	w := lent(t)
	submits(t, w, "b", am(20, 0), 1, "+1")
	submits(t, w, "b", am(0, 20), 2, "+2")
	submits(t, w, "a", am(1, 0), 3, "-1+3")
	submits(t, w, "b", none, 4, "")
	submits(t, w, "a", am(0, 1), 5, "-2+5")
	gives(t, w.All(), []api.Queue{
		{Nominal: am(20, 20), Usage: am(1, 1)},
		{Path: "a", Leaf: true, Nominal: am(10, 10), Borrow: am(10, 10), Usage: am(1, 1)},
		{Path: "b", Leaf: true, Nominal: am(10, 10), Borrow: am(10, 10), Waiting: []int{2, 1, 4}},
	})
}

// TestLeftEarly: at each place, the first among them, and gone through again then.
func TestLeftEarly(t *testing.T) {
	w, want := busy(t)
	seq := w.All()
	for most := 1; most <= len(want)+1; most++ {
		var got []api.Queue
		for q := range seq {
			got = append(got, q)
			if len(got) == most {
				break
			}
		}
		if !slices.EqualFunc(got, want[:min(most, len(want))], same) {
			t.Errorf("P10: the first %d are\n%+v, want\n%+v", most, got, want[:min(most, len(want))])
		}
		gives(t, seq, want)
		gives(t, w.All(), want)
	}
}

// TestNobodyIsGivenToWhoLeft asks without a range: it is asked once more only if it said so.
func TestNobodyIsGivenToWhoLeft(t *testing.T) {
	w, want := busy(t)
	for most := 1; most <= len(want); most++ {
		count := 0
		w.All()(func(api.Queue) bool {
			count++
			return count < most
		})
		if count != most {
			t.Errorf("P10: %d were given, want %d", count, most)
		}
	}
}

// TestLeftByAPanic: it is the caller's, who gets it, and the tower is as it was.
func TestLeftByAPanic(t *testing.T) {
	w, want := busy(t)
	seq := w.All()
	func() {
		defer func() {
			if r := recover(); r != "enough" {
				t.Errorf("P10: the caller's panic became %v", r)
			}
		}()
		for q := range seq {
			if q.Path == "x" {
				panic("enough")
			}
		}
	}()
	gives(t, seq, want)
	submits(t, w, "x/a", am(0, 1), 8, "+8")
}

// findBy leaves by return.
func findBy(seq iter.Seq[api.Queue], holds func(api.Queue) bool) (api.Queue, bool) {
	for q := range seq {
		if holds(q) {
			return q, true
		}
	}
	return api.Queue{}, false
}

func TestLeftByReturn(t *testing.T) {
	w, want := busy(t)
	for _, each := range want {
		got, there := findBy(w.All(), func(q api.Queue) bool { return q.Path == each.Path })
		if !there || !same(got, each) {
			t.Errorf("P10: found is %+v, %v, want %+v", got, there, each)
		}
	}
	if got, there := findBy(w.All(), func(q api.Queue) bool { return q.Path == "y" }); there {
		t.Errorf("P10: found is %+v", got)
	}
}

func TestGoneThroughTwice(t *testing.T) {
	w, want := busy(t)
	seq := w.All()
	for range 3 {
		gives(t, seq, want)
	}
	ok(t)(w.Remove("xy"))
	ok(t)(w.Remove("x/e"))
	for range 2 {
		order(t, w, "", "c", "x", "x/a", "x/b")
		gives(t, seq, asTold(t, w, "", "c", "x", "x/a", "x/b"))
	}
}

// TestOneWithinTheOther: each goes its own way, the same iterator or another, and the inner one is left early, too.
func TestOneWithinTheOther(t *testing.T) {
	w, want := busy(t)
	seq := w.All()
	for _, inner := range []iter.Seq[api.Queue]{seq, w.All()} {
		var outer []api.Queue
		for q := range seq {
			gives(t, inner, want)
			for other := range inner {
				if other.Path == q.Path {
					break
				}
			}
			outer = append(outer, q)
		}
		if !slices.EqualFunc(outer, want, same) {
			t.Errorf("P10: the outer one gave\n%+v, want\n%+v", outer, want)
		}
	}
}

// TestTheOuterOneLeftFromWithin: a break over both.
func TestTheOuterOneLeftFromWithin(t *testing.T) {
	w, _ := busy(t)
	pairs := ""
outer:
	for q := range w.All() {
		for other := range w.All() {
			pairs += q.Path + "-" + other.Path + " "
			switch {
			case q.Path == "c":
				break outer
			case other.Path == "x":
				continue outer
			}
		}
	}
	if want := "- -c -x c- "; pairs != want {
		t.Errorf("P10: the pairs are %q, want %q", pairs, want)
	}
}

// TestTwoAtATime: pulled in turn.
func TestTwoAtATime(t *testing.T) {
	w, want := busy(t)
	seq := w.All()
	one, stopOne := iter.Pull(seq)
	other, stopOther := iter.Pull(seq)
	defer stopOne()
	defer stopOther()
	one()
	for i := 1; i <= len(want); i++ {
		a, aThere := other()
		b, bThere := one()
		if !aThere || !same(a, want[i-1]) || bThere != (i < len(want)) || bThere && !same(b, want[i]) {
			t.Errorf("P10: at %d: %+v, %v and %+v, %v", i, a, aThere, b, bThere)
		}
	}
	if q, there := other(); there {
		t.Errorf("P10: behind the last one came %+v", q)
	}
}

// TestMaxQueues: at MaxDepth, of many names in one cohort, and in several towers of cohorts; with MaxWork workloads.
func TestMaxQueues(t *testing.T) {
	names := []string{"a", "aa", "aaaa", "aaab", "ab", "abz", "b", "ba", "bz", "c", "m", "ma", "y", "z", "za", "zzzz"}
	w, want := fresh(t), []string{"", "q", "q/q", "q/q/q"}
	cohorts(t, w, want[1:]...)
	for i := range names {
		leaves(t, w, "q/q/q/"+names[(i*7+3)%len(names)])
		want = append(want, "q/q/q/"+names[i])
	}
	for n := 1; n <= api.MaxWork; n++ {
		if _, _, e := w.Submit(want[4+n%5*3], am(n%2, n%3)); e != api.OK {
			t.Errorf("P6: Submit = %d", e)
		}
	}
	no(t, api.ErrMany)(w.Cohort("a", none))
	refused(t, w, "q/q/q/a", none, api.ErrMany)
	order(t, w, want...)
}

func TestMaxQueuesOfEachDepth(t *testing.T) {
	w, want := fresh(t), []string{""}
	for _, name := range []string{"d", "b", "c", "a"} {
		path := name
		for range api.MaxDepth - 1 {
			cohorts(t, w, path)
			path += "/" + name
		}
		leaves(t, w, path)
	}
	cohorts(t, w, "ab", "a/b", "a/a/b")
	for _, name := range []string{"a", "b", "c", "d"} {
		for n := range api.MaxDepth {
			want = append(want, strings.Repeat(name+"/", n)+name)
		}
		if name == "a" {
			want = append(want, "a/a/b", "a/b", "ab")
		}
	}
	if len(want) != api.MaxQueues {
		t.Fatalf("the test has %d queues", len(want))
	}
	no(t, api.ErrMany)(w.Cohort("e", none))
	order(t, w, want...)
}
