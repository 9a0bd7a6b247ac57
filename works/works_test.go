package works

import (
	"slices"
	"testing"

	"borrow/api"
	"borrow/tree"
)

var none api.Amount

// sample is two leaves, one of them in a cohort, with three workloads in each line, in turn.
func sample() (book *Book, root, a, b *tree.Queue) {
	book, root = &Book{}, tree.NewCohort(none)
	x := tree.NewCohort(none)
	a, b = tree.NewLeaf(none, none), tree.NewLeaf(none, none)
	root.Hang("x", x)
	root.Hang("a", a)
	x.Hang("b", b)
	for n := range 3 {
		book.Submit(a, api.Amount{1, n})
		book.Submit(b, api.Amount{10, 10 * n})
	}
	return book, root, a, b
}

func numbers(book *Book, leaf *tree.Queue) []int {
	var list []int
	for work := range book.Line(leaf) {
		list = append(list, work.Number)
	}
	return list
}

func newest(book *Book) []int {
	var list []int
	for work := range book.Newest() {
		list = append(list, work.Number)
	}
	return list
}

// is holds against each other the lines of both leaves, and who is admitted, the newest first.
func is(t *testing.T, book *Book, a, b *tree.Queue, lineA, lineB, admitted []int) {
	t.Helper()
	if got := numbers(book, a); !slices.Equal(got, lineA) {
		t.Errorf("the line of a is %v, want %v", got, lineA)
	}
	if got := numbers(book, b); !slices.Equal(got, lineB) {
		t.Errorf("the line of b is %v, want %v", got, lineB)
	}
	if got := newest(book); !slices.Equal(got, admitted) {
		t.Errorf("admitted are %v, want %v", got, admitted)
	}
	if got, want := book.Count(), len(lineA)+len(lineB)+len(admitted); got != want {
		t.Errorf("Count() = %d, want %d", got, want)
	}
}

func TestComingAndGoing(t *testing.T) {
	book, _, a, b := sample()
	is(t, book, a, b, []int{1, 3, 5}, []int{2, 4, 6}, nil)
	book.Admit(book.Head(b))
	book.Admit(book.Head(a))
	book.Admit(book.Head(b))
	is(t, book, a, b, []int{3, 5}, []int{6}, []int{4, 1, 2})
	two, _ := book.Find(2)
	book.Evict(two)
	is(t, book, a, b, []int{3, 5}, []int{2, 6}, []int{4, 1})
	one, _ := book.Find(1)
	book.Evict(one)
	is(t, book, a, b, []int{1, 3, 5}, []int{2, 6}, []int{4})
	book.Admit(two)
	is(t, book, a, b, []int{1, 3, 5}, []int{6}, []int{2, 4})
	three, _ := book.Find(3)
	book.Finish(three)
	book.Finish(two)
	is(t, book, a, b, []int{1, 5}, []int{6}, []int{4})
	if number := book.Submit(a, none); number != 7 {
		t.Errorf("the number is %d, want 7", number)
	}
	is(t, book, a, b, []int{1, 5, 7}, []int{6}, []int{4})
}

func TestFind(t *testing.T) {
	book, _, a, b := sample()
	book.Admit(book.Head(b))
	if work, admitted := book.Find(2); work == nil || *work != (Work{2, b, api.Amount{10, 0}}) || !admitted {
		t.Errorf("Find(2) = %+v, %v", work, admitted)
	}
	if work, admitted := book.Find(5); work == nil || *work != (Work{5, a, api.Amount{1, 2}}) || admitted {
		t.Errorf("Find(5) = %+v, %v", work, admitted)
	}
	for _, number := range []int{0, 7, -1, 1 << 62} {
		if work, admitted := book.Find(number); work != nil || admitted {
			t.Errorf("Find(%d) = %+v, %v", number, work, admitted)
		}
	}
}

func TestHead(t *testing.T) {
	book, root, a, _ := sample()
	for _, number := range []int{1, 3, 5} {
		head := book.Head(a)
		if head == nil || head.Number != number {
			t.Fatalf("the head is %+v, want %d", head, number)
		}
		book.Finish(head)
	}
	if head := book.Head(a); head != nil {
		t.Errorf("the head is %+v, want none", head)
	}
	if head := book.Head(root); head != nil {
		t.Errorf("a cohort's head is %+v, want none", head)
	}
}

func TestUsage(t *testing.T) {
	book, root, a, b := sample()
	for range 2 {
		book.Admit(book.Head(a))
		book.Admit(book.Head(b))
	}
	for path, want := range map[string]api.Amount{"": {22, 11}, "x": {20, 10}, "x/b": {20, 10}, "a": {2, 1}} {
		if got := book.Usage(root.Find(path)); got != want {
			t.Errorf("Usage(%q) = %v, want %v", path, got, want)
		}
	}
}

// TestLeftEarly leaves the iterators at each place: one that went on would panic.
func TestLeftEarly(t *testing.T) {
	book, _, a, b := sample()
	for range 3 {
		book.Admit(book.Head(a))
	}
	for most := 1; most <= 3; most++ {
		count := 0
		for range book.Line(b) {
			if count++; count == most {
				break
			}
		}
		for range book.Newest() {
			if count++; count == 2*most {
				break
			}
		}
		if count != 2*most {
			t.Errorf("they gave %d, want %d", count, 2*most)
		}
	}
}

func TestHas(t *testing.T) {
	book, root, a, b := sample()
	if !book.Has(a) || !book.Has(b) || book.Has(root) {
		t.Errorf("a, b and the root have: %v, %v, %v", book.Has(a), book.Has(b), book.Has(root))
	}
	for range 3 {
		book.Admit(book.Head(a)) // none waits there then
		book.Finish(book.Head(b))
	}
	if !book.Has(a) || book.Has(b) {
		t.Errorf("a and b have: %v, %v", book.Has(a), book.Has(b))
	}
	for _, number := range []int{1, 3, 5} {
		work, _ := book.Find(number)
		book.Finish(work)
	}
	if book.Has(a) {
		t.Error("a has workloads, but all have ended")
	}
}
