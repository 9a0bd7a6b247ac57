package borrow_test

import (
	"fmt"
	"math"
	"slices"
	"strings"
	"testing"

	"borrow/api"
	"borrow/borrow"
)

// P1

// everyCall calls all there is to call with a text and a number.
func everyCall(w *borrow.Tower, text string, number int) {
	amount := am(number, number)
	w.Cohort(text, amount)
	w.Leaf(text, amount, amount)
	w.Queue(text)
	w.Quota(text, amount, amount)
	w.Submit(text, amount)
	w.Move(text, text)
	w.Move(text, "")
	w.Move("x", text)
	w.Finish(number)
	w.Work(number)
	for range w.All() {
		break
	}
	for range w.All() {
		w.Move(text, "")
		w.Remove(text)
	}
}

func TestNothingPanics(t *testing.T) {
	texts := append(noPaths(), "", "a", "x", "x/a", "x/y", "x/y/z/a", "x/y/z/c", "x/y/z/c/d", "b", "b/c", "a/b/c/d/e", "abcd")
	numbers := append(noUnits(), 0, 1, 2, api.MaxUnits, math.MaxInt32, math.MinInt32)
	for _, text := range texts {
		w, _ := withWork(t)
		empty := fresh(t)
		for _, number := range numbers {
			everyCall(w, text, number)
			everyCall(empty, text, number)
		}
	}
}

// TestWithAnErrorNothingElse: every other result is zero, and nothing is changed, also where work waits.
func TestWithAnErrorNothingElse(t *testing.T) {
	w, there := withWork(t)
	before := picture(w, there)
	for _, r := range refusals() {
		refuse(t, w, r)
	}
	refusedWork(t, w)
	refusedRemoves(t, w)
	refusedQuotas(t, w)
	for _, c := range refusedMoves() {
		no(t, c.want)(w.Move(c.path, c.to))
	}
	unknown(t, w, noNumbers()...)
	for _, text := range noPaths() {
		untold(t, w, text, api.ErrPath)
	}
	if after := picture(w, there); after != before {
		t.Errorf("P1: what was refused changed the tower from\n%s to\n%s", before, after)
	}
}

// P2

func TestTowersAreApart(t *testing.T) {
	alone, _ := withWork(t)
	fill(t, alone, 8)
	manyWork(t, alone, 4)
	a, there := withWork(t)
	b := fresh(t)
	ok(t)(b.Cohort("a", am(9, 9)))
	ok(t)(b.Leaf("x", am(9, 9), am(9, 9)))
	submits(t, b, "x", am(9, 9), 1, "+1")
	unknown(t, b, 2, 3)
	fill(t, a, 8)
	fill(t, b, 3)
	ok(t)(b.Finish(1))
	ok(t)(b.Remove("x"))
	ok(t)(b.Cohort("x", none))
	ok(t)(b.Move("a", "x"))
	ok(t)(b.Quota("x", none, am(8, 8)))
	manyWork(t, a, 4)
	if one, other := picture(alone, there), picture(a, there); one != other {
		t.Errorf("P2: the same calls, and other answers:\n%s and\n%s", one, other)
	}
	told(t, b, api.Queue{Path: "x/a", Borrow: am(9, 9)})
	told(t, b, api.Queue{Path: "x", Borrow: am(8, 8)})
	told(t, b, api.Queue{})
}

// TestAskingChangesNothing: what is asked twice is told twice, whatever was asked between.
func TestAskingChangesNothing(t *testing.T) {
	w, there := withWork(t)
	before := picture(w, there)
	for _, text := range append(noPaths(), "b", "x/b", "a/b/c/d/e") {
		w.Queue(text)
	}
	for _, number := range append(noNumbers(), 1, 2, 3, 4, 5) {
		w.Work(number)
	}
	w.All()
	for range w.All() {
		break
	}
	if after := picture(w, there); after != before {
		t.Errorf("P2: asking changed the tower from\n%s to\n%s", before, after)
	}
}

// TestAnswersAreTheCallers: a caller may write into what it was given, its spare room too.
func TestAnswersAreTheCallers(t *testing.T) {
	kept, scribbled := fresh(t), fresh(t)
	paths := []string{"", "x", "x/a", "b", "c", "x/c"}
	for step := range 40 {
		one, oneErr := anyStep(kept, step)
		other, otherErr := anyStep(scribbled, step)
		if spell(one) != spell(other) || oneErr != otherErr {
			t.Fatalf("P2: step %d: the answer is %q, %d, want %q, %d", step, spell(other), otherErr, spell(one), oneErr)
		}
		scribbleEvents(other)
		for _, path := range paths {
			q, _ := scribbled.Queue(path)
			scribbleNumbers(q.Waiting)
		}
		for q := range scribbled.All() {
			scribbleNumbers(q.Waiting)
		}
		if one, other := picture(kept, paths), picture(scribbled, paths); one != other {
			t.Fatalf("P2: writing into answers changed the tower from\n%s to\n%s", one, other)
		}
	}
}

// anyStep is one of a row of calls, of which some admit, some evict, and some leave work waiting.
func anyStep(w *borrow.Tower, step int) ([]api.Event, api.Errno) {
	switch step {
	case 0:
		return w.Cohort("x", am(4, 4))
	case 1:
		return w.Leaf("x/a", am(6, 6), am(9, 9))
	case 2:
		return w.Leaf("b", am(6, 6), am(9, 9))
	case 20:
		return w.Leaf("c", am(3, 3), none)
	case 24:
		return w.Quota("b", am(9, 9), am(9, 9))
	case 30:
		return w.Move("c", "x")
	case 33:
		return w.Quota("x/a", am(9, 9), am(9, 9))
	}
	if step%3 == 2 {
		return w.Finish(step/2 - 4)
	}
	_, events, e := w.Submit([]string{"x/a", "b"}[step/7%2], am(1+step%4, 1+step%3))
	return events, e
}

// TestAnswersStayAsTheyWere: what was told once does not change with the tower.
func TestAnswersStayAsTheyWere(t *testing.T) {
	w := lent(t)
	_, first, _ := w.Submit("b", am(20, 0))
	submits(t, w, "b", am(1, 0), 2, "")
	submits(t, w, "b", am(1, 0), 3, "")
	before, _ := w.Queue("b")
	_, second, _ := w.Submit("a", am(10, 0))
	does(t, "+2+3")(w.Finish(1))
	after, _ := w.Queue("b")
	ok(t)(w.Finish(3))
	if spell(first) != "+1" || spell(second) != "-1+4" {
		t.Errorf("P2: the events became %q and %q", spell(first), spell(second))
	}
	if !slices.Equal(before.Waiting, []int{2, 3}) || before.Usage != am(20, 0) || after.Usage != am(2, 0) || len(after.Waiting) > 0 {
		t.Errorf("P2: the queue became %+v and %+v", before, after)
	}
}

// TestAnswersShareNothing: writing into one answer, its spare room too, changes no other one.
func TestAnswersShareNothing(t *testing.T) {
	w := fresh(t)
	var events [][]api.Event
	var waiting [][]int
	want := ""
	for step := range 40 {
		list, _ := anyStep(w, step)
		events = append(events, list)
		for _, path := range []string{"x/a", "b", "x/a"} {
			q, _ := w.Queue(path)
			waiting = append(waiting, q.Waiting)
		}
		for q := range w.All() {
			waiting = append(waiting, q.Waiting)
		}
	}
	for _, list := range events {
		want += spell(list)
	}
	if strings.Count(want, "-") < 3 || strings.Count(want, "+") < 15 {
		t.Errorf("the test tries little: %q", want)
	}
	for i := range events {
		kept := slices.Clone(events[i])
		scribbleEvents(events[i])
		got := ""
		for j, list := range events {
			if j == i {
				list = kept
			}
			got += spell(list)
		}
		if got != want {
			t.Fatalf("P2: writing into the answer of step %d made of the events %q, which were %q", i, got, want)
		}
		copy(events[i], kept)
	}
	apart(t, waiting)
}

// apart writes each list full, its spare room too, and looks whether another one changes.
func apart(t *testing.T, lists [][]int) {
	t.Helper()
	before := fmt.Sprint(lists)
	for i := range lists {
		own := slices.Clone(lists[i])
		scribbleNumbers(lists[i])
		copy(lists[i], own)
		if after := fmt.Sprint(lists); after != before {
			t.Fatalf("P2: writing into a list made of the lists %s, which were %s", after, before)
		}
	}
}

func scribbleEvents(list []api.Event) {
	list = list[:cap(list)]
	for i := range list {
		list[i] = api.Event{Kind: 9, Work: 9}
	}
}

func scribbleNumbers(list []int) {
	list = list[:cap(list)]
	for i := range list {
		list[i] = -9
	}
}
