// Package tree keeps the queues, and which hangs in which.
package tree

import (
	"iter"
	"slices"
	"strings"

	"borrow/amounts"
	"borrow/api"
	"borrow/paths"
)

// Queue is a leaf or a cohort; one that hangs in no other is a root.
type Queue struct {
	name   string
	leaf   bool
	own    api.Amount // a leaf's nominal; a cohort has none of its own
	borrow api.Amount
	above  *Queue
	below  []*Queue // by their names
}

// NewCohort makes a cohort that hangs nowhere yet.
func NewCohort(borrow api.Amount) *Queue { return &Queue{borrow: borrow} }

// NewLeaf makes a leaf that hangs nowhere yet.
func NewLeaf(nominal, borrow api.Amount) *Queue {
	return &Queue{leaf: true, own: nominal, borrow: borrow}
}

// Leaf tells a leaf from a cohort.
func (q *Queue) Leaf() bool { return q.leaf }

// Borrow is what the queue may use above its nominal.
func (q *Queue) Borrow() api.Amount { return q.borrow }

// Above is the queue in which this one hangs, or nil.
func (q *Queue) Above() *Queue { return q.above }

// Empty tells whether no queue hangs in this one.
func (q *Queue) Empty() bool { return len(q.below) == 0 }

// Nominal is the sum of what the leaves have. A cohort's is never kept, so it
// cannot differ from theirs.
func (q *Queue) Nominal() api.Amount {
	var sum api.Amount
	for each := range q.All() {
		sum = amounts.Add(sum, each.own)
	}
	return sum
}

// Limit is the most that the queue may use.
func (q *Queue) Limit() api.Amount { return amounts.Add(q.Nominal(), q.borrow) }

// SetQuota says anew what a queue may use. A cohort has what its leaves have,
// so only its borrow is taken.
func (q *Queue) SetQuota(nominal, borrow api.Amount) {
	if q.leaf {
		q.own = nominal
	}
	q.borrow = borrow
}

// Path says where the queue hangs.
func (q *Queue) Path() string {
	if q.above == nil {
		return paths.Root
	}
	return paths.Join(q.above.Path(), q.name)
}

// Hang hangs a queue in this one, under a name that is free there.
func (q *Queue) Hang(name string, queue *Queue) {
	at, _ := q.place(name)
	queue.name = strings.Clone(name) // what was handed in is not kept
	queue.above = q
	q.below = slices.Insert(q.below, at, queue)
}

// Leave takes the queue out of the one in which it hangs, with all below it.
func (q *Queue) Leave() {
	at, _ := q.above.place(q.name)
	q.above.below = slices.Delete(q.above.below, at, at+1)
	q.above = nil
}

// MoveTo hangs the queue in another one, under its name, which is free there.
func (q *Queue) MoveTo(to *Queue) {
	q.Leave()
	to.Hang(q.name, q)
}

// Find is the queue with this path, seen from here, or nil.
func (q *Queue) Find(path string) *Queue {
	found := q
	for name := range paths.Names(path) {
		at, there := found.place(name)
		if !there {
			return nil
		}
		found = found.below[at]
	}
	return found
}

// Up gives the queue, that in which it hangs, and so on to the root.
func (q *Queue) Up() iter.Seq[*Queue] {
	return func(yield func(*Queue) bool) {
		for queue := q; queue != nil && yield(queue); queue = queue.above {
		}
	}
}

// Depth is how many names the queue's path has.
func (q *Queue) Depth() int { return paths.Depth(q.Path()) }

// In tells whether the queue is this one or lies below it.
func (q *Queue) In(other *Queue) bool {
	for queue := range q.Up() {
		if queue == other {
			return true
		}
	}
	return false
}

// All gives the queue, and behind each cohort the queues in it, each with all
// below it, by their names.
func (q *Queue) All() iter.Seq[*Queue] {
	return func(yield func(*Queue) bool) { q.each(yield) }
}

// each tells whether to go on, so that leaving early ends every level.
func (q *Queue) each(yield func(*Queue) bool) bool {
	if !yield(q) {
		return false
	}
	for _, queue := range q.below {
		if !queue.each(yield) {
			return false
		}
	}
	return true
}

// place is where a name stands among those below, or would stand.
func (q *Queue) place(name string) (int, bool) {
	return slices.BinarySearchFunc(q.below, name, func(queue *Queue, name string) int {
		return strings.Compare(queue.name, name)
	})
}
