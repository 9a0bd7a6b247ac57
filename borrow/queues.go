package borrow

import (
	"borrow/amounts"
	"borrow/api"
	"borrow/paths"
	"borrow/tree"
)

// hang makes a queue part of the tower, if nothing speaks against it.
func (t *Tower) hang(path string, queue *tree.Queue, given ...api.Amount) api.Errno {
	if refusal := t.refuseNew(path, given); refusal != api.OK {
		return refusal
	}
	above, name := paths.Split(path)
	t.root.Find(above).Hang(name, queue)
	return api.OK
}

// refuseNew asks in the order in which P4 names the errors: the first one that
// applies is the answer.
func (t *Tower) refuseNew(path string, given []api.Amount) api.Errno {
	if refusal := refusePaths(path); refusal != api.OK {
		return refusal
	}
	if !allAllowed(given...) {
		return api.ErrArg
	}
	if paths.Depth(path) > api.MaxDepth {
		return api.ErrDeep
	}
	if t.root.Find(path) != nil {
		return api.ErrThere
	}
	above, _ := paths.Split(path)
	return t.refuseIn(t.root.Find(above))
}

// refusePaths tells what speaks against paths whatever else is asked: the root
// stays as it is, but others may hang in it.
func refusePaths(first string, others ...string) api.Errno {
	for _, path := range append(others, first) {
		if !paths.Valid(path) {
			return api.ErrPath
		}
	}
	if first == paths.Root {
		return api.ErrRoot
	}
	return api.OK
}

// refuseIn tells what speaks against one more queue in this one.
func (t *Tower) refuseIn(above *tree.Queue) api.Errno {
	switch {
	case above == nil:
		return api.ErrNone
	case above.Leaf():
		return api.ErrKind
	case t.full():
		return api.ErrMany
	}
	return api.OK
}

func (t *Tower) full() bool {
	count := 0
	for range t.root.All() {
		count++
	}
	return count >= api.MaxQueues
}

func allAllowed(given ...api.Amount) bool {
	for _, amount := range given {
		if !amounts.Allowed(amount) {
			return false
		}
	}
	return true
}

// tell is what a caller may know of a queue.
func (t *Tower) tell(queue *tree.Queue) api.Queue {
	return api.Queue{
		Path:    queue.Path(),
		Leaf:    queue.Leaf(),
		Nominal: queue.Nominal(),
		Borrow:  queue.Borrow(),
		Usage:   t.book.Usage(queue),
		Waiting: t.waiting(queue),
	}
}

// tellAll tells of all queues before the first one is given, since whoever goes
// through them may call on the tower meanwhile.
func (t *Tower) tellAll() []api.Queue {
	var list []api.Queue
	for queue := range t.root.All() {
		list = append(list, t.tell(queue))
	}
	return list
}

// waiting is the numbers of those in a queue's line; a cohort has none.
func (t *Tower) waiting(queue *tree.Queue) []int {
	var numbers []int
	for work := range t.book.Line(queue) {
		numbers = append(numbers, work.Number)
	}
	return numbers
}
