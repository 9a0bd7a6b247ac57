// Package borrow: queues, and who may use how much: see DOC.md.
package borrow

import (
	"iter"

	"borrow/api"
	"borrow/paths"
	"borrow/tree"
)

// Tower is a tree of queues.
type Tower struct {
	root *tree.Queue
}

// New makes a tower (P3).
func New() *Tower { return &Tower{root: tree.NewCohort(api.Amount{})} }

// Cohort makes a queue that holds others (P4).
func (t *Tower) Cohort(path string, borrow api.Amount) ([]api.Event, api.Errno) {
	return nil, t.hang(path, tree.NewCohort(borrow), borrow)
}

// Leaf makes a queue that holds workloads (P4).
func (t *Tower) Leaf(path string, nominal api.Amount, borrow api.Amount) ([]api.Event, api.Errno) {
	return nil, t.hang(path, tree.NewLeaf(nominal, borrow), nominal, borrow)
}

// Remove takes a queue away (P5).
func (t *Tower) Remove(path string) ([]api.Event, api.Errno) { return nil, api.OK }

// Move hangs a queue elsewhere (P5).
func (t *Tower) Move(path string, to string) ([]api.Event, api.Errno) { return nil, api.OK }

// Quota changes what a queue may use (P5).
func (t *Tower) Quota(path string, nominal api.Amount, borrow api.Amount) ([]api.Event, api.Errno) {
	return nil, api.OK
}

// Submit brings a workload (P6).
func (t *Tower) Submit(path string, demand api.Amount) (int, []api.Event, api.Errno) {
	return 0, nil, api.OK
}

// Finish ends a workload (P6).
func (t *Tower) Finish(work int) ([]api.Event, api.Errno) { return nil, api.OK }

// Queue tells of a queue (P9).
func (t *Tower) Queue(path string) (api.Queue, api.Errno) {
	if !paths.Valid(path) {
		return api.Queue{}, api.ErrPath
	}
	queue := t.root.Find(path)
	if queue == nil {
		return api.Queue{}, api.ErrNone
	}
	return tell(queue), api.OK
}

// Work tells of a workload (P9).
func (t *Tower) Work(work int) (api.Work, api.Errno) { return api.Work{}, api.OK }

// All goes through the queues (P10).
func (t *Tower) All() iter.Seq[api.Queue] { return func(yield func(api.Queue) bool) {} }
