package borrow

import (
	"borrow/amounts"
	"borrow/api"
	"borrow/paths"
)

// submit puts a workload in the line of a leaf, if nothing speaks against it.
func (t *Tower) submit(path string, demand api.Amount) (int, api.Errno) {
	if refusal := t.refuseWork(path, demand); refusal != api.OK {
		return 0, refusal
	}
	return t.book.Submit(t.root.Find(path), demand), api.OK
}

// refuseWork asks in the order in which P6 names the errors: the first one that
// applies is the answer.
func (t *Tower) refuseWork(path string, demand api.Amount) api.Errno {
	if !paths.Valid(path) {
		return api.ErrPath
	}
	leaf := t.root.Find(path)
	switch {
	case leaf == nil:
		return api.ErrNone
	case !leaf.Leaf():
		return api.ErrKind
	case !amounts.Allowed(demand):
		return api.ErrArg
	case t.book.Count() >= api.MaxWork:
		return api.ErrMany
	}
	return api.OK
}

// finish takes a workload away, if it is there.
func (t *Tower) finish(number int) api.Errno {
	work, _ := t.book.Find(number)
	if work == nil {
		return api.ErrWork
	}
	t.book.Finish(work)
	return api.OK
}
