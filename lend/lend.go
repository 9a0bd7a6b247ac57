// Package lend tells who is admitted, and who is put out for it.
package lend

import (
	"iter"

	"borrow/amounts"
	"borrow/api"
	"borrow/heap"
	"borrow/tree"
	"borrow/works"
)

// round is one look at who can be admitted.
type round struct {
	root   *tree.Queue
	book   *works.Book
	events []api.Event
}

// Look admits whom it can, and tells in order what became of whom.
func Look(root *tree.Queue, book *works.Book) []api.Event {
	r := &round{root: root, book: book}
	r.giveOwn()
	r.lendIdle()
	return r.events
}

// giveOwn admits the heads that are their leaves' own, and puts out who is in
// their way. What is in the heap stays as it is meanwhile: a leaf whose head is
// its own is not above its nominal, so nobody is put out of it; and who is put
// out is not its leaf's own, since with it the leaf was above its nominal.
func (r *round) giveOwn() {
	next := heap.New(func(a, b *works.Work) bool { return a.Leaf.Path() < b.Leaf.Path() })
	for head := range r.heads() {
		r.pushOwn(next, head)
	}
	for head, some := next.Pop(); some; head, some = next.Pop() {
		r.makeRoom(head)
		r.admit(head)
		r.pushOwn(next, r.book.Head(head.Leaf))
	}
}

// pushOwn takes a head up among those that are to be admitted, if there is one
// and it is its leaf's own.
func (r *round) pushOwn(next *heap.Heap[*works.Work], head *works.Work) {
	if head != nil && r.above(head) == (api.Amount{}) {
		next.Push(head)
	}
}

// makeRoom puts out one by one who is in the way, which is nobody any more when
// the head fits.
func (r *round) makeRoom(head *works.Work) {
	for victim := r.victim(head); victim != nil; victim = r.victim(head) {
		r.book.Evict(victim)
		r.tell(api.Evicted, victim)
	}
}

// victim is the newest of those in the way of a head, or nil.
func (r *round) victim(head *works.Work) *works.Work {
	for work := range r.book.Newest() {
		if r.inTheWay(work, head) {
			return work
		}
	}
	return nil
}

// inTheWay tells whether a workload uses of what its leaf has borrowed where a
// head is short of that.
func (r *round) inTheWay(work, head *works.Work) bool {
	borrowed := amounts.Above(r.book.Usage(work.Leaf), work.Leaf.Nominal())
	for queue := range head.Leaf.Up() {
		short := r.short(queue, head.Demand)
		if work.Leaf.In(queue) && amounts.Least(short, borrowed, work.Demand) != (api.Amount{}) {
			return true
		}
	}
	return false
}

// asker is a head that would be admitted if it fits.
type asker struct {
	head  *works.Work
	share int
}

func comesBefore(a, b asker) bool {
	if a.share != b.share {
		return a.share < b.share
	}
	return a.head.Number < b.head.Number
}

// lendIdle admits the heads that fit. From here on usage only grows, so who
// does not fit now will not, and its leaf's line is at its end; and a share
// changes with its own leaf's usage alone, so what is in the heap stays right.
func (r *round) lendIdle() {
	next := heap.New(comesBefore)
	for head := range r.heads() {
		next.Push(r.asker(head))
	}
	for first, some := next.Pop(); some; first, some = next.Pop() {
		if !r.fits(first.head) {
			continue
		}
		r.admit(first.head)
		if head := r.book.Head(first.head.Leaf); head != nil {
			next.Push(r.asker(head))
		}
	}
}

// asker reckons a share in parts of the product of what the root has of both
// resources, so that shares are whole numbers. Where the root has nothing, who
// fits is above by nothing, and any divisor does.
func (r *round) asker(head *works.Work) asker {
	above, all := r.above(head), r.root.Nominal()
	share := max(above[0]*max(1, all[1]), above[1]*max(1, all[0]))
	return asker{head: head, share: share}
}

// heads gives the head of each line.
func (r *round) heads() iter.Seq[*works.Work] {
	return func(yield func(*works.Work) bool) {
		for queue := range r.root.All() {
			if head := r.book.Head(queue); head != nil && !yield(head) {
				return
			}
		}
	}
}

// above is by how much, with a workload, its leaf would be above its nominal.
func (r *round) above(work *works.Work) api.Amount {
	usage := amounts.Add(r.book.Usage(work.Leaf), work.Demand)
	return amounts.Above(usage, work.Leaf.Nominal())
}

// short is by how much, with a demand, a queue would be above its limit.
func (r *round) short(queue *tree.Queue, demand api.Amount) api.Amount {
	usage := amounts.Add(r.book.Usage(queue), demand)
	return amounts.Above(usage, queue.Limit())
}

// fits tells whether a workload is short nowhere.
func (r *round) fits(work *works.Work) bool {
	for queue := range work.Leaf.Up() {
		if r.short(queue, work.Demand) != (api.Amount{}) {
			return false
		}
	}
	return true
}

func (r *round) admit(work *works.Work) {
	r.book.Admit(work)
	r.tell(api.Admitted, work)
}

func (r *round) tell(kind int, work *works.Work) {
	r.events = append(r.events, api.Event{Kind: kind, Work: work.Number})
}
