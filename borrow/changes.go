package borrow

import (
	"borrow/amounts"
	"borrow/api"
	"borrow/paths"
	"borrow/tree"
)

// remove takes a queue out of the tower, if nothing speaks against it.
func (t *Tower) remove(path string) api.Errno {
	if refusal := t.refuseRemove(path); refusal != api.OK {
		return refusal
	}
	queue := t.root.Find(path)
	above := queue.Above()
	_, name := paths.Split(path)
	return t.attempt(queue.Leave, func() { above.Hang(name, queue) })
}

// move hangs a queue in another one, if nothing speaks against it.
func (t *Tower) move(path, to string) api.Errno {
	if refusal := t.refuseMove(path, to); refusal != api.OK {
		return refusal
	}
	queue, target := t.root.Find(path), t.root.Find(to)
	above := queue.Above()
	return t.attempt(func() { queue.MoveTo(target) }, func() { queue.MoveTo(above) })
}

// quota says anew what a queue may use, if nothing speaks against it.
func (t *Tower) quota(path string, nominal, borrow api.Amount) api.Errno {
	if refusal := t.refuseQuota(path, nominal, borrow); refusal != api.OK {
		return refusal
	}
	queue := t.root.Find(path)
	oldNominal, oldBorrow := queue.Nominal(), queue.Borrow()
	return t.attempt(
		func() { queue.SetQuota(nominal, borrow) },
		func() { queue.SetQuota(oldNominal, oldBorrow) },
	)
}

// attempt does a change, since only behind it can be told what it makes of the
// limits, and undoes it if one is broken.
func (t *Tower) attempt(change, undo func()) (refusal api.Errno) {
	defer func() {
		if refusal != api.OK {
			undo()
		}
	}()
	change()
	return t.refuseOver()
}

// refuseOver tells whether a queue uses more than it may.
func (t *Tower) refuseOver() api.Errno {
	for queue := range t.root.All() {
		if amounts.Above(t.book.Usage(queue), queue.Limit()) != (api.Amount{}) {
			return api.ErrOver
		}
	}
	return api.OK
}

// refuseRemove asks in the order in which P5 names the errors, as far as they
// can be told ahead of the change.
func (t *Tower) refuseRemove(path string) api.Errno {
	if refusal := refusePaths(path); refusal != api.OK {
		return refusal
	}
	queue := t.root.Find(path)
	switch {
	case queue == nil:
		return api.ErrNone
	case !queue.Empty() || t.book.Has(queue):
		return api.ErrBusy
	}
	return api.OK
}

// refuseMove asks in the order in which P5 names the errors, as refuseRemove.
func (t *Tower) refuseMove(path, to string) api.Errno {
	if refusal := refusePaths(path, to); refusal != api.OK {
		return refusal
	}
	queue, target := t.root.Find(path), t.root.Find(to)
	_, name := paths.Split(path)
	switch {
	case queue == nil || target == nil:
		return api.ErrNone
	case target.Leaf():
		return api.ErrKind
	case target.In(queue):
		return api.ErrCycle
	case target.Find(name) != nil:
		return api.ErrThere
	case tooDeep(queue, target):
		return api.ErrDeep
	}
	return api.OK
}

// refuseQuota asks in the order in which P5 names the errors, as refuseRemove.
func (t *Tower) refuseQuota(path string, nominal, borrow api.Amount) api.Errno {
	if refusal := refusePaths(path); refusal != api.OK {
		return refusal
	}
	queue := t.root.Find(path)
	switch {
	case queue == nil:
		return api.ErrNone
	case !allAllowed(nominal, borrow):
		return api.ErrArg
	case !queue.Leaf() && nominal != (api.Amount{}):
		return api.ErrArg
	}
	return api.OK
}

// tooDeep tells whether a queue, or one below it, would have too many names if
// it hung in another one.
func tooDeep(queue, to *tree.Queue) bool {
	more := to.Depth() + 1 - queue.Depth()
	for each := range queue.All() {
		if each.Depth()+more > api.MaxDepth {
			return true
		}
	}
	return false
}
