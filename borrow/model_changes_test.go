package borrow_test

import (
	"maps"
	"slices"
	"strings"
	"testing"

	"borrow/api"
	"borrow/borrow"
)

// copy is a model of its own that is the same.
func (m *model) copy() *model {
	lines := map[string][]int{}
	for path, line := range m.lines {
		lines[path] = slices.Clone(line)
	}
	return &model{maps.Clone(m.queues), lines, slices.Clone(m.admitted), maps.Clone(m.works), m.last}
}

// broken tells whether a limit is broken.
func (m *model) broken() bool {
	for path, q := range m.queues {
		nominal, usage := m.nominal(path), m.usage(path)
		if usage[0] > nominal[0]+q.Borrow[0] || usage[1] > nominal[1]+q.Borrow[1] {
			return true
		}
	}
	return false
}

// become is the model that a change made of it, if no limit is broken in that.
func (m *model) become(changed *model) api.Errno {
	if changed.broken() {
		return api.ErrOver
	}
	*m = *changed
	return api.OK
}

// isBusy tells whether something is below a queue, or in it.
func (m *model) isBusy(path string) bool {
	for each := range m.queues {
		if each != path && below(each, path) {
			return true
		}
	}
	for _, work := range m.works {
		if work.Path == path {
			return true
		}
	}
	return false
}

// remove does what P5 asks for.
func (m *model) remove(path string) api.Errno {
	_, there := m.queues[path]
	switch {
	case !aPath.MatchString(path):
		return api.ErrPath
	case path == "":
		return api.ErrRoot
	case !there:
		return api.ErrNone
	case m.isBusy(path):
		return api.ErrBusy
	}
	changed := m.copy()
	delete(changed.queues, path)
	return m.become(changed)
}

// move does what P5 asks for.
func (m *model) move(path, to string) api.Errno {
	names := strings.Split(path, "/")
	moved := strings.TrimPrefix(to+"/"+names[len(names)-1], "/")
	_, there := m.queues[path]
	target, toThere := m.queues[to]
	_, taken := m.queues[moved]
	switch {
	case !aPath.MatchString(path) || !aPath.MatchString(to):
		return api.ErrPath
	case path == "":
		return api.ErrRoot
	case !there || !toThere:
		return api.ErrNone
	case target.Leaf:
		return api.ErrKind
	case below(to, path):
		return api.ErrCycle
	case taken:
		return api.ErrThere
	}
	changed := m.renamed(path, moved)
	for each := range changed.queues {
		if strings.Count(each, "/") >= api.MaxDepth {
			return api.ErrDeep
		}
	}
	return m.become(changed)
}

// renamed is the model with other paths of a queue and all below it.
func (m *model) renamed(path, moved string) *model {
	other := func(each string) string {
		if below(each, path) {
			return moved + strings.TrimPrefix(each, path)
		}
		return each
	}
	changed := m.copy()
	clear(changed.queues)
	clear(changed.lines)
	for each, q := range m.queues {
		q.Path = other(each)
		changed.queues[q.Path] = q
	}
	for each, line := range m.lines {
		if len(line) > 0 { // of those that were there once nothing is left
			changed.lines[other(each)] = slices.Clone(line)
		}
	}
	for number, work := range m.works {
		work.Path = other(work.Path)
		changed.works[number] = work
	}
	return changed
}

// quota does what P5 asks for.
func (m *model) quota(path string, nominal, borrow api.Amount) api.Errno {
	q, there := m.queues[path]
	switch {
	case !aPath.MatchString(path):
		return api.ErrPath
	case path == "":
		return api.ErrRoot
	case !there:
		return api.ErrNone
	case !between(nominal) || !between(borrow) || !q.Leaf && nominal != none:
		return api.ErrArg
	}
	changed := m.copy()
	q.Nominal, q.Borrow = nominal, borrow
	changed.queues[path] = q
	return m.become(changed)
}

// change is a call of P5.
type change struct {
	name            string
	path, to        string
	nominal, borrow api.Amount
}

func (c change) on(w *borrow.Tower) ([]api.Event, api.Errno) {
	switch c.name {
	case "Remove":
		return w.Remove(c.path)
	case "Move":
		return w.Move(c.path, c.to)
	}
	return w.Quota(c.path, c.nominal, c.borrow)
}

func (c change) onModel(m *model) api.Errno {
	switch c.name {
	case "Remove":
		return m.remove(c.path)
	case "Move":
		return m.move(c.path, c.to)
	}
	return m.quota(c.path, c.nominal, c.borrow)
}

// bothChange changes the tower and the model, and gives the events and the error.
func bothChange(t *testing.T, w *borrow.Tower, m *model, c change) (string, api.Errno) {
	t.Helper()
	events, e := c.on(w)
	want := c.onModel(m)
	text := m.settle(want)
	if e != want || spell(events) != text {
		t.Fatalf("P5, P7: %+v: the answer is %q, %d, want %q, %d", c, spell(events), e, text, want)
	}
	return text, e
}
