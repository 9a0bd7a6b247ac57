// Package works keeps the workloads: who waits, who is admitted, in what order.
package works

import (
	"iter"
	"slices"

	"borrow/amounts"
	"borrow/api"
	"borrow/tree"
)

// Work is a workload.
type Work struct {
	Number int
	Leaf   *tree.Queue
	Demand api.Amount
}

// Book holds the workloads that are there.
type Book struct {
	last     int     // the number that was given last
	waiting  []*Work // those of each leaf as they stand in its line
	admitted []*Work // as they were admitted
}

// Count is how many there are.
func (b *Book) Count() int { return len(b.waiting) + len(b.admitted) }

// Submit puts a new workload last in the line of its leaf, and tells its number.
func (b *Book) Submit(leaf *tree.Queue, demand api.Amount) int {
	b.last++
	b.waiting = append(b.waiting, &Work{Number: b.last, Leaf: leaf, Demand: demand})
	return b.last
}

// Finish takes a workload away, wherever it is.
func (b *Book) Finish(work *Work) {
	b.waiting = without(b.waiting, work)
	b.admitted = without(b.admitted, work)
}

// Admit takes a workload out of its line.
func (b *Book) Admit(work *Work) {
	b.waiting = without(b.waiting, work)
	b.admitted = append(b.admitted, work)
}

// Evict puts a workload back at the head of its line. The lines of other
// leaves do not change by who stands ahead of all.
func (b *Book) Evict(work *Work) {
	b.admitted = without(b.admitted, work)
	b.waiting = slices.Insert(b.waiting, 0, work)
}

// Find is the workload of this number, or nil, and whether it is admitted.
func (b *Book) Find(number int) (*Work, bool) {
	if work := find(b.admitted, number); work != nil {
		return work, true
	}
	return find(b.waiting, number), false
}

// Has tells whether a leaf has workloads, which may ask for nothing.
func (b *Book) Has(leaf *tree.Queue) bool {
	ofLeaf := func(work *Work) bool { return work.Leaf == leaf }
	return slices.ContainsFunc(b.waiting, ofLeaf) || slices.ContainsFunc(b.admitted, ofLeaf)
}

// Line gives the workloads that wait in a leaf, the head first.
func (b *Book) Line(leaf *tree.Queue) iter.Seq[*Work] {
	return func(yield func(*Work) bool) {
		for _, work := range b.waiting {
			if work.Leaf == leaf && !yield(work) {
				return
			}
		}
	}
}

// Head is the first one in a leaf's line, or nil.
func (b *Book) Head(leaf *tree.Queue) *Work {
	for work := range b.Line(leaf) {
		return work
	}
	return nil
}

// Newest gives the admitted workloads, that which was admitted last first.
func (b *Book) Newest() iter.Seq[*Work] {
	return func(yield func(*Work) bool) {
		for _, work := range slices.Backward(b.admitted) {
			if !yield(work) {
				return
			}
		}
	}
}

// Usage is the sum of the demands of all admitted workloads in a queue or
// below it. It is never kept, so it cannot differ from theirs.
func (b *Book) Usage(queue *tree.Queue) api.Amount {
	var sum api.Amount
	for _, work := range b.admitted {
		if work.Leaf.In(queue) {
			sum = amounts.Add(sum, work.Demand)
		}
	}
	return sum
}

func find(list []*Work, number int) *Work {
	for _, work := range list {
		if work.Number == number {
			return work
		}
	}
	return nil
}

func without(list []*Work, work *Work) []*Work {
	return slices.DeleteFunc(list, func(each *Work) bool { return each == work })
}
