package borrow_test

import (
	"fmt"
	"iter"
	"math/rand/v2"
	"slices"
	"testing"

	"borrow/api"
	"borrow/borrow"
)

// P10: calls on the tower before and while it is gone through, and what its caller writes

// aCall is a call on the tower of busy, and what it answers there, as a text.
type aCall struct {
	do   func(w *borrow.Tower) string
	want string
}

func said(events []api.Event, e api.Errno) string { return fmt.Sprintf("%s %d", spell(events), e) }

func saidWork(number int, events []api.Event, e api.Errno) string {
	return fmt.Sprintf("%d %s %d", number, spell(events), e)
}

// callsOfEveryKind are done or refused, and admit or evict somebody or nobody.
func callsOfEveryKind() []aCall {
	return []aCall{
		{func(w *borrow.Tower) string { return said(w.Cohort("a", none)) }, " 0"},
		{func(w *borrow.Tower) string { return said(w.Cohort("x/aa", none)) }, " 0"},
		{func(w *borrow.Tower) string { return said(w.Cohort("zz", none)) }, " 0"},
		{func(w *borrow.Tower) string { return said(w.Cohort("x", none)) }, " 4"},
		{func(w *borrow.Tower) string { return said(w.Leaf("x/e/a", am(20, 20), none)) }, "+3+7 0"},
		{func(w *borrow.Tower) string { return said(w.Leaf("b", am(20, 20), none)) }, " 0"},
		{func(w *borrow.Tower) string { return said(w.Leaf("xy/a", none, none)) }, " 5"},
		{func(w *borrow.Tower) string { return said(w.Remove("xy")) }, " 0"},
		{func(w *borrow.Tower) string { return said(w.Remove("x/e")) }, " 0"},
		{func(w *borrow.Tower) string { return said(w.Remove("x/b")) }, " 9"},
		{func(w *borrow.Tower) string { return said(w.Move("x/e", "")) }, " 0"},
		{func(w *borrow.Tower) string { return said(w.Move("x/b", "")) }, " 0"},
		{func(w *borrow.Tower) string { return said(w.Move("c", "x/e")) }, " 0"},
		{func(w *borrow.Tower) string { return said(w.Move("x/a", "")) }, " 0"},
		{func(w *borrow.Tower) string { return said(w.Move("x/b", "x/e")) }, " 11"},
		{func(w *borrow.Tower) string { return said(w.Move("x", "x/e")) }, " 10"},
		{func(w *borrow.Tower) string { return said(w.Quota("x/b", am(30, 30), none)) }, "+3+7 0"},
		{func(w *borrow.Tower) string { return said(w.Quota("c", am(30, 10), none)) }, "-1+2+6 0"},
		{func(w *borrow.Tower) string { return said(w.Quota("x/e", none, am(9, 9))) }, " 0"},
		{func(w *borrow.Tower) string { return said(w.Quota("x", none, none)) }, " 11"},
		{func(w *borrow.Tower) string { return saidWork(w.Submit("x/a", am(0, 1))) }, "8 +8 0"},
		{func(w *borrow.Tower) string { return saidWork(w.Submit("x/b", am(1, 0))) }, "8  0"},
		{func(w *borrow.Tower) string { return saidWork(w.Submit("x", none)) }, "0  5"},
		{func(w *borrow.Tower) string { return said(w.Finish(1)) }, "+3+7 0"},
		{func(w *borrow.Tower) string { return said(w.Finish(2)) }, "+6 0"},
		{func(w *borrow.Tower) string { return said(w.Finish(3)) }, " 0"},
		{func(w *borrow.Tower) string { return said(w.Finish(5)) }, "+3+7 0"},
		{func(w *borrow.Tower) string { return said(w.Finish(4)) }, " 12"},
		{func(w *borrow.Tower) string { return fmt.Sprint(w.Queue("x/b")) }, "{x/b true [10 10] [20 20] [15 5] [3 7]} 0"},
		{func(w *borrow.Tower) string { return fmt.Sprint(w.Work(3)) }, "{x/b [8 1] false} 0"},
		{func(w *borrow.Tower) string { return fmt.Sprint(len(slices.Collect(w.All()))) }, "7"},
	}
}

// TestACallMeanwhile: each call, at each place: it is answered as ever, what is given stays, and the next round gives
// what the call made of the tower.
func TestACallMeanwhile(t *testing.T) {
	for i, c := range callsOfEveryKind() {
		twin, want := busy(t)
		if got := c.do(twin); got != c.want {
			t.Fatalf("call %d is answered %q, want %q", i, got, c.want)
		}
		for place := range want {
			w, _ := busy(t)
			seq := w.All()
			var got []api.Queue
			for q := range seq {
				if len(got) == place {
					if answer := c.do(w); answer != c.want {
						t.Errorf("P10: call %d, at %d, is answered %q, want %q", i, place, answer, c.want)
					}
				}
				got = append(got, q)
			}
			if !slices.EqualFunc(got, want, same) {
				t.Errorf("P10: with call %d, at %d, All() gave\n%+v, want\n%+v", i, place, got, want)
			}
			gives(t, seq, slices.Collect(twin.All()))
			if one, other := picture(twin, pathsOf(want)), picture(w, pathsOf(want)); one != other {
				t.Fatalf("P10: call %d, at %d, made of the tower\n%s, want\n%s", i, place, other, one)
			}
		}
	}
}

// TestAllCallsMeanwhile: one behind the other, in one round or in several at a time.
func TestAllCallsMeanwhile(t *testing.T) {
	twin, want := busy(t)
	w, _ := busy(t)
	var got []api.Queue
	for q := range w.All() {
		for i, c := range callsOfEveryKind() {
			before := slices.Collect(twin.All())
			answer := c.do(twin)
			var inner []api.Queue
			for each := range w.All() {
				if len(inner) == i%3 {
					if other := c.do(w); other != answer {
						t.Errorf("P10: call %d is answered %q, want %q", i, other, answer)
					}
				}
				inner = append(inner, each)
			}
			if !slices.EqualFunc(inner, before, same) {
				t.Errorf("P10: with call %d the inner one gave\n%+v, want\n%+v", i, inner, before)
			}
		}
		got = append(got, q)
	}
	if !slices.EqualFunc(got, want, same) {
		t.Errorf("P10: All() gave\n%+v, want\n%+v", got, want)
	}
	if one, other := picture(twin, pathsOf(want)), picture(w, pathsOf(want)); one != other {
		t.Errorf("P10: the calls made of the tower\n%s, want\n%s", other, one)
	}
}

// TestItEndsThoughTheTowerGrows: each time with one more behind the last.
func TestItEndsThoughTheTowerGrows(t *testing.T) {
	w, want := busy(t)
	count := 0
	for range w.All() {
		ok(t)(w.Cohort("y"+string(rune('a'+count)), none))
		count++
	}
	if count != len(want) || len(slices.Collect(w.All())) != 2*len(want) {
		t.Errorf("P10: %d were given, want %d, and then %+v", count, len(want), slices.Collect(w.All()))
	}
}

// TestAllIsTakenAwayMeanwhile: those too that are still to be given, the one that is given, and those behind.
func TestAllIsTakenAwayMeanwhile(t *testing.T) {
	w, want := busy(t)
	var got []api.Queue
	for q := range w.All() {
		if len(got) == 1 {
			for number := range 8 {
				w.Finish(number)
			}
			for _, path := range []string{"xy", "x/e", "x/b", "x/a", "x", "c"} {
				ok(t)(w.Remove(path))
			}
			gives(t, w.All(), []api.Queue{{}})
		}
		got = append(got, q)
	}
	if !slices.EqualFunc(got, want, same) {
		t.Errorf("P10: All() gave\n%+v, want\n%+v", got, want)
	}
	gives(t, w.All(), []api.Queue{{}})
}

// TestBegunLater: the queues are as they are when it is begun, not as they were at All(); one iterator for all rounds.
func TestBegunLater(t *testing.T) {
	w := fresh(t)
	seq := w.All()
	ok(t)(w.Cohort("x", am(5, 6)))
	gives(t, seq, []api.Queue{{}, {Path: "x", Borrow: am(5, 6)}})
	ok(t)(w.Leaf("x/a", am(1, 2), am(3, 4)))
	submits(t, w, "x/a", am(1, 1), 1, "+1")
	submits(t, w, "x/a", am(7, 7), 2, "")
	gives(t, seq, []api.Queue{
		{Nominal: am(1, 2), Usage: am(1, 1)},
		{Path: "x", Nominal: am(1, 2), Borrow: am(5, 6), Usage: am(1, 1)},
		{Path: "x/a", Leaf: true, Nominal: am(1, 2), Borrow: am(3, 4), Usage: am(1, 1), Waiting: []int{2}},
	})
	ok(t)(w.Finish(2))
	ok(t)(w.Finish(1))
	ok(t)(w.Move("x/a", ""))
	ok(t)(w.Quota("a", am(9, 9), none))
	gives(t, seq, []api.Queue{
		{Nominal: am(9, 9)}, {Path: "a", Leaf: true, Nominal: am(9, 9)}, {Path: "x", Borrow: am(5, 6)},
	})
	ok(t)(w.Remove("a"))
	ok(t)(w.Remove("x"))
	gives(t, seq, []api.Queue{{}})
}

// TestEachCallAheadOfIt: behind All() and ahead of the round.
func TestEachCallAheadOfIt(t *testing.T) {
	for _, c := range callsOfEveryKind() {
		twin, _ := busy(t)
		w, _ := busy(t)
		seq := w.All()
		c.do(w)
		c.do(twin)
		gives(t, seq, slices.Collect(twin.All()))
	}
}

// TestPulled: it is begun with the first queue that is asked for; calls come between any two, and two that were begun at
// different times give what was there then.
func TestPulled(t *testing.T) {
	w, want := busy(t)
	early, stopEarly := iter.Pull(w.All())
	late, stopLate := iter.Pull(w.All())
	unasked, stopUnasked := iter.Pull(w.All())
	defer stopEarly()
	defer stopLate()
	got := []api.Queue{pulled(t, early)}
	does(t, "+3+7")(w.Finish(1))
	ok(t)(w.Remove("x/e"))
	wantLate := asTold(t, w, "", "c", "x", "x/a", "x/b", "xy")
	gotLate := []api.Queue{pulled(t, late)}
	ok(t)(w.Remove("xy"))
	does(t, "+6")(w.Finish(2))
	for range 5 {
		got = append(got, pulled(t, early))
		gotLate = append(gotLate, pulled(t, late))
		ok(t)(w.Quota("c", am(20+len(got), 20), none))
	}
	got = append(got, pulled(t, early))
	if !slices.EqualFunc(got, want, same) || !slices.EqualFunc(gotLate, wantLate, same) {
		t.Errorf("P10: pulled were\n%+v, want\n%+v, and\n%+v, want\n%+v", got, want, gotLate, wantLate)
	}
	stopUnasked()
	for _, next := range []func() (api.Queue, bool){early, late, unasked} {
		if q, there := next(); there {
			t.Errorf("P10: behind the last one came %+v", q)
		}
	}
}

func pulled(t *testing.T, next func() (api.Queue, bool)) api.Queue {
	t.Helper()
	q, there := next()
	if !there {
		t.Error("P10: there is no next one")
	}
	return q
}

// TestStoppedEarly: one that was pulled and stopped leaves the tower as it was.
func TestStoppedEarly(t *testing.T) {
	w, want := busy(t)
	for most := range len(want) + 1 {
		next, stop := iter.Pull(w.All())
		for i := range most {
			if q := pulled(t, next); !same(q, want[i]) {
				t.Errorf("P10: the %d-th is %+v, want %+v", i, q, want[i])
			}
		}
		stop()
		if q, there := next(); there {
			t.Errorf("P10: behind the end came %+v", q)
		}
		gives(t, w.All(), want)
	}
}

// TestGivenListsAreTheCallers: written full, their spare room too, at once or behind the round: nothing that is given or
// told later differs.
func TestGivenListsAreTheCallers(t *testing.T) {
	kept, want := busy(t)
	w, _ := busy(t)
	seq := w.All()
	for range 3 {
		count := 0
		for q := range seq {
			if !same(q, want[count]) {
				t.Errorf("P2: the %d-th is %+v, want %+v", count, q, want[count])
			}
			scribbleNumbers(q.Waiting)
			gives(t, w.All(), want)
			count++
		}
		for _, q := range slices.Collect(seq) {
			scribbleNumbers(q.Waiting)
		}
	}
	for i, c := range callsOfEveryKind() {
		if one, other := c.do(kept), c.do(w); one != other {
			t.Errorf("P2: call %d is answered %q, want %q", i, other, one)
		}
		for q := range seq {
			scribbleNumbers(q.Waiting)
		}
		if one, other := picture(kept, pathsOf(want)), picture(w, pathsOf(want)); one != other {
			t.Fatalf("P2: writing into what was given changed the tower from\n%s to\n%s", one, other)
		}
	}
}

// lines is a tower with a leaf for each length, in which so many wait.
func lines(t *testing.T, lengths ...int) (*borrow.Tower, []string) {
	t.Helper()
	w, there, number := fresh(t), []string{""}, 0
	for i, length := range lengths {
		path := string(rune('a' + i))
		ok(t)(w.Leaf(path, none, none))
		for range length {
			number++
			submits(t, w, path, am(1, 0), number, "")
		}
		there = append(there, path)
	}
	return w, there
}

// TestRoundsShareNothing: no list of a round is in another list of it, of another round, or of what Queue tells, be
// there as many as may be.
func TestRoundsShareNothing(t *testing.T) {
	for _, lengths := range [][]int{{2, 2}, {1, 1, 1, 1, 1, 1, 1, 1}, {1, 2, 3, 4, 5, 0, 6, 3}, {5, 3, 5, 3, 5, 3}, {23, 1}, {12, 12}} {
		w, paths := lines(t, lengths...)
		seq := w.All()
		var lists [][]int
		for range 2 {
			for _, round := range [][]api.Queue{slices.Collect(seq), slices.Collect(w.All()), asTold(t, w, paths...)} {
				for _, q := range round {
					lists = append(lists, q.Waiting)
				}
			}
		}
		apart(t, lists)
	}
}

// TestGivenStaysAsItWas: also when all calls have been done.
func TestGivenStaysAsItWas(t *testing.T) {
	w, want := busy(t)
	given := slices.Collect(w.All())
	for _, c := range callsOfEveryKind() {
		c.do(w)
		for range w.All() {
		}
		if !slices.EqualFunc(given, want, same) {
			t.Fatalf("P2: what was given became\n%+v, want\n%+v", given, want)
		}
	}
}

// now is all that the model holds, in the order of P10: since / comes ahead of every letter, that is the paths' order.
func (m *model) now() []api.Queue {
	var list []api.Queue
	for _, path := range m.paths() {
		q, _ := m.tell(path)
		q.Waiting = slices.Clone(q.Waiting)
		list = append(list, q)
	}
	return list
}

// TestAllAsTheModel: one iterator a tower, begun again and again, left at any place, with any calls meanwhile.
func TestAllAsTheModel(t *testing.T) {
	r := rand.New(rand.NewPCG(15, 16))
	whole, early, changed := 0, 0, 0
	for range 150 {
		w, m := fresh(t), newModel()
		seq := w.All()
		anyTower(t, r, w, m)
		borrowMuch(t, r, w, m)
		for range 40 {
			want := m.now()
			most := 1 + r.IntN(2*len(want))
			var got []api.Queue
			for q := range seq {
				if r.IntN(3) == 0 {
					anyCall(t, r, w, m)
				}
				got = append(got, q)
				if len(got) == most {
					break
				}
			}
			if !slices.EqualFunc(got, want[:min(most, len(want))], same) {
				t.Fatalf("P10: All() gave\n%+v, want the first %d of\n%+v", got, most, want)
			}
			if most < len(want) {
				early++
			} else {
				whole++
			}
			if !slices.Equal(pathsOf(want), m.paths()) {
				changed++
			}
			anyCall(t, r, w, m)
		}
		gives(t, seq, m.now())
	}
	if whole < 1000 || early < 1000 || changed < 300 {
		t.Errorf("the test tries little: %d whole, %d left early, %d with other queues then", whole, early, changed)
	}
}
