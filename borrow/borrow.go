// Package borrow: queues, and who may use how much: see DOC.md.
package borrow

import (
	"iter"

	"borrow/api"
	"borrow/lend"
	"borrow/paths"
	"borrow/tree"
	"borrow/works"
)

// Tower is a tree of queues.
type Tower struct {
	root *tree.Queue
	book works.Book
}

// New makes a tower (P3).
func New() *Tower { return &Tower{root: tree.NewCohort(api.Amount{})} }

// Cohort makes a queue that holds others (P4).
func (t *Tower) Cohort(path string, borrow api.Amount) ([]api.Event, api.Errno) {
	return t.answer(t.hang(path, tree.NewCohort(borrow), borrow))
}

// Leaf makes a queue that holds workloads (P4).
func (t *Tower) Leaf(path string, nominal api.Amount, borrow api.Amount) ([]api.Event, api.Errno) {
	return t.answer(t.hang(path, tree.NewLeaf(nominal, borrow), nominal, borrow))
}

// Remove takes a queue away (P5).
func (t *Tower) Remove(path string) ([]api.Event, api.Errno) { return t.answer(t.remove(path)) }

// Move hangs a queue elsewhere (P5).
func (t *Tower) Move(path string, to string) ([]api.Event, api.Errno) {
	return t.answer(t.move(path, to))
}

// Quota changes what a queue may use (P5).
func (t *Tower) Quota(path string, nominal api.Amount, borrow api.Amount) ([]api.Event, api.Errno) {
	return t.answer(t.quota(path, nominal, borrow))
}

// Submit brings a workload (P6).
func (t *Tower) Submit(path string, demand api.Amount) (int, []api.Event, api.Errno) {
	number, refusal := t.submit(path, demand)
	events, errno := t.answer(refusal)
	return number, events, errno
}

// Finish ends a workload (P6).
func (t *Tower) Finish(work int) ([]api.Event, api.Errno) { return t.answer(t.finish(work)) }

// Queue tells of a queue (P9).
func (t *Tower) Queue(path string) (api.Queue, api.Errno) {
	if !paths.Valid(path) {
		return api.Queue{}, api.ErrPath
	}
	queue := t.root.Find(path)
	if queue == nil {
		return api.Queue{}, api.ErrNone
	}
	return t.tell(queue), api.OK
}

// Work tells of a workload (P9).
func (t *Tower) Work(work int) (api.Work, api.Errno) {
	found, admitted := t.book.Find(work)
	if found == nil {
		return api.Work{}, api.ErrWork
	}
	return api.Work{Path: found.Leaf.Path(), Demand: found.Demand, Admitted: admitted}, api.OK
}

// All goes through the queues (P10).
func (t *Tower) All() iter.Seq[api.Queue] {
	return func(yield func(api.Queue) bool) {
		for _, queue := range t.tellAll() {
			if !yield(queue) {
				return
			}
		}
	}
}

// answer looks who can be admitted, behind a change that was not refused (P7).
func (t *Tower) answer(refusal api.Errno) ([]api.Event, api.Errno) {
	if refusal != api.OK {
		return nil, refusal
	}
	return lend.Look(t.root, &t.book), api.OK
}
