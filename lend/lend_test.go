package lend

import (
	"cmp"
	"fmt"
	"math/rand/v2"
	"slices"
	"testing"

	"borrow/api"
	"borrow/tree"
	"borrow/works"
)

var (
	none   api.Amount
	plenty = api.Amount{api.MaxUnits, api.MaxUnits}
)

func spell(events []api.Event) string {
	text := ""
	for _, event := range events {
		text += fmt.Sprintf("%c%d", "?+-"[event.Kind], event.Work)
	}
	return text
}

// sample is a root with leaves that have 10 of each resource; their paths by byte are a, b, x/a, xa.
func sample() *tree.Queue {
	root, x := tree.NewCohort(none), tree.NewCohort(plenty)
	for _, name := range []string{"xa", "b", "a"} {
		root.Hang(name, tree.NewLeaf(api.Amount{10, 10}, plenty))
	}
	root.Hang("x", x)
	x.Hang("a", tree.NewLeaf(api.Amount{10, 10}, plenty))
	return root
}

// TestOwnByTheirPaths: of the heads of several leaves that are their own the one with the least path comes first, and
// its line ahead of the next leaf's.
func TestOwnByTheirPaths(t *testing.T) {
	root, book := sample(), &works.Book{}
	for _, path := range []string{"xa", "x/a", "b", "xa", "a", "b", "a"} {
		book.Submit(root.Find(path), api.Amount{3, 0})
	}
	if got := spell(Look(root, book)); got != "+5+7+3+6+2+1+4" {
		t.Errorf("Look told %q", got)
	}
	if got := spell(Look(root, book)); got != "" {
		t.Errorf("Look told %q of the rest", got)
	}
}

// TestOwnByTheirPathsBehindAMove: by the paths that they have by then.
func TestOwnByTheirPathsBehindAMove(t *testing.T) {
	root, book := sample(), &works.Book{}
	for _, path := range []string{"b", "a", "x/a", "xa"} {
		book.Submit(root.Find(path), api.Amount{3, 0})
	}
	y, xaa := tree.NewCohort(plenty), tree.NewLeaf(api.Amount{10, 10}, plenty)
	root.Hang("y", y)
	root.Find("a").MoveTo(y)
	root.Find("b").MoveTo(root.Find("x"))
	root.Find("x").MoveTo(y)
	root.Hang("xaa", xaa)
	book.Submit(xaa, api.Amount{3, 0})
	if got := spell(Look(root, book)); got != "+4+5+2+3+1" { // xa, xaa, y/a, y/x/a, y/x/b
		t.Errorf("Look told %q", got)
	}
}

// TestOwnOfSeveralPutOut: each puts out for itself, as it comes.
func TestOwnOfSeveralPutOut(t *testing.T) {
	root, book := sample(), &works.Book{}
	for range 4 {
		book.Submit(root.Find("b"), api.Amount{10, 0})
	}
	if got := spell(Look(root, book)); got != "+1+2+3+4" {
		t.Errorf("Look told %q", got)
	}
	for _, path := range []string{"xa", "x/a", "a", "a"} {
		book.Submit(root.Find(path), api.Amount{10, 0})
	}
	if got := spell(Look(root, book)); got != "-4+7-3+6-2+5" {
		t.Errorf("Look told %q", got)
	}
}

// plainly does what P7 says, step by step, each time from the start.
func plainly(root *tree.Queue, book *works.Book) string {
	r := &round{root: root, book: book}
	text := ""
	for head := least(r, isOwn, byPath); head != nil; head = least(r, isOwn, byPath) {
		for !r.fits(head) {
			victim := r.victim(head)
			text += fmt.Sprintf("-%d", victim.Number)
			book.Evict(victim)
		}
		text += fmt.Sprintf("+%d", head.Number)
		book.Admit(head)
	}
	for head := least(r, (*round).fits, byShare); head != nil; head = least(r, (*round).fits, byShare) {
		text += fmt.Sprintf("+%d", head.Number)
		book.Admit(head)
	}
	return text
}

func isOwn(r *round, work *works.Work) bool { return r.above(work) == none }

func byPath(_ *round, a, b *works.Work) int { return cmp.Compare(a.Leaf.Path(), b.Leaf.Path()) }

func byShare(r *round, a, b *works.Work) int {
	return cmp.Or(cmp.Compare(r.asker(a).share, r.asker(b).share), cmp.Compare(a.Number, b.Number))
}

// least is the first head of those for which something holds, or nil.
func least(r *round, holds func(*round, *works.Work) bool, order func(r *round, a, b *works.Work) int) *works.Work {
	var list []*works.Work
	for head := range r.heads() {
		if holds(r, head) {
			list = append(list, head)
		}
	}
	if len(list) == 0 {
		return nil
	}
	return slices.MinFunc(list, func(a, b *works.Work) int { return order(r, a, b) })
}

// TestAsPlainly: many workloads come at once, so that several heads are their leaves' own.
func TestAsPlainly(t *testing.T) {
	r := rand.New(rand.NewPCG(9, 10))
	names := []string{"a", "b", "x/a", "xa"}
	for range 300 {
		root, book, plain := sample(), &works.Book{}, &works.Book{}
		for range 10 {
			for range r.IntN(8) {
				leaf := root.Find(names[r.IntN(len(names))])
				demand := api.Amount{r.IntN(9), r.IntN(9)}
				book.Submit(leaf, demand)
				plain.Submit(leaf, demand)
			}
			if got, want := spell(Look(root, book)), plainly(root, plain); got != want {
				t.Fatalf("Look told %q, want %q", got, want)
			}
			for number := range 70 {
				if work, _ := book.Find(number); work != nil && r.IntN(3) == 0 {
					other, _ := plain.Find(number)
					book.Finish(work)
					plain.Finish(other)
				}
			}
		}
	}
}

// TestHeadsAreLeftEarly: one that went on would panic.
func TestHeadsAreLeftEarly(t *testing.T) {
	root, book := sample(), &works.Book{}
	for queue := range root.All() {
		if queue.Leaf() {
			book.Submit(queue, none)
		}
	}
	r := &round{root: root, book: book}
	for most := 1; most <= 4; most++ {
		count := 0
		for range r.heads() {
			if count++; count == most {
				break
			}
		}
		if count != most {
			t.Errorf("heads gave %d, want %d", count, most)
		}
	}
}
