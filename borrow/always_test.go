package borrow_test

import (
	"math"
	"testing"

	"borrow/api"
	"borrow/borrow"
)

// P1

// everyCall calls all there is to call with a text and a number.
func everyCall(w *borrow.Tower, text string, number int) {
	amount := am(number, number)
	w.Cohort(text, amount)
	w.Leaf(text, amount, amount)
	w.Queue(text)
	w.Quota(text, amount, amount)
	w.Submit(text, amount)
	w.Move(text, text)
	w.Move(text, "")
	w.Move("x", text)
	w.Finish(number)
	w.Work(number)
	for range w.All() {
		break
	}
	w.Remove(text)
}

func TestNothingPanics(t *testing.T) {
	texts := append(noPaths(), "", "a", "x", "x/a", "x/y", "x/y/z/a", "x/y/z/c", "x/y/z/c/d", "b", "b/c", "a/b/c/d/e", "abcd")
	numbers := append(noUnits(), 0, 1, 2, api.MaxUnits, math.MaxInt32, math.MinInt32)
	for _, text := range texts {
		w, _ := sample(t)
		empty := fresh(t)
		for _, number := range numbers {
			everyCall(w, text, number)
			everyCall(empty, text, number)
		}
	}
}

// P2

func TestTowersAreApart(t *testing.T) {
	alone, _ := sample(t)
	fill(t, alone, 8)
	a, there := sample(t)
	b := fresh(t)
	ok(t)(b.Cohort("a", am(9, 9)))
	ok(t)(b.Leaf("x", am(9, 9), am(9, 9)))
	fill(t, a, 8)
	fill(t, b, 3)
	if one, other := picture(alone, there), picture(a, there); one != other {
		t.Errorf("P2: the same calls, and other answers:\n%s and\n%s", one, other)
	}
	told(t, b, api.Queue{Path: "a", Borrow: am(9, 9)})
	told(t, b, api.Queue{Path: "x", Leaf: true, Nominal: am(9, 9), Borrow: am(9, 9)})
	told(t, b, api.Queue{Nominal: am(9, 9)})
	no(t, api.ErrKind)(b.Leaf("x/a", none, none))
}

// TestAskingChangesNothing: what is asked twice is told twice, whatever was asked between.
func TestAskingChangesNothing(t *testing.T) {
	w, there := sample(t)
	before := picture(w, there)
	for _, text := range append(noPaths(), "b", "x/b", "a/b/c/d/e") {
		w.Queue(text)
	}
	if after := picture(w, there); after != before {
		t.Errorf("P2: asking changed the tower from\n%s to\n%s", before, after)
	}
}

// TestAnswersAreTheCallers: a caller may write into what it was given, its spare room too.
func TestAnswersAreTheCallers(t *testing.T) {
	w := fresh(t)
	for _, path := range []string{"x", "x/y", "x/z"} {
		events, e := w.Cohort(path, none)
		ok(t)(events, e)
		scribbleEvents(events)
	}
	for _, path := range []string{"a", "x/a", "x/y/a"} {
		events, e := w.Leaf(path, am(1, 1), none)
		ok(t)(events, e)
		scribbleEvents(events)
	}
	paths := []string{"", "x", "x/y", "x/z", "a", "x/a", "x/y/a"}
	before := picture(w, paths)
	for _, path := range paths {
		q, _ := w.Queue(path)
		scribbleNumbers(q.Waiting)
	}
	if after := picture(w, paths); after != before {
		t.Errorf("P2: writing into answers changed the tower from\n%s to\n%s", before, after)
	}
}

func scribbleEvents(list []api.Event) {
	list = list[:cap(list)]
	for i := range list {
		list[i] = api.Event{Kind: 9, Work: 9}
	}
}

func scribbleNumbers(list []int) {
	list = list[:cap(list)]
	for i := range list {
		list[i] = -9
	}
}
