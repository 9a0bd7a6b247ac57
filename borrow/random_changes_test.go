package borrow_test

import (
	"math/rand/v2"
	"slices"
	"strings"
	"testing"

	"borrow/api"
)

// anyThere is the path of a queue that is there, or now and then another text.
func anyThere(r *rand.Rand, m *model) string {
	if r.IntN(12) == 0 {
		return anyPath(r, m)
	}
	paths := m.paths()
	return paths[r.IntN(len(paths))]
}

// anyTarget is mostly the path of a cohort.
func anyTarget(r *rand.Rand, m *model) string {
	if r.IntN(8) == 0 {
		return anyThere(r, m)
	}
	paths := slices.DeleteFunc(m.paths(), func(path string) bool { return m.queues[path].Leaf })
	return paths[r.IntN(len(paths))]
}

// about is an amount that differs by a few units.
func about(r *rand.Rand, a api.Amount) api.Amount {
	return am(max(0, a[0]+r.IntN(7)-3), max(0, a[1]+r.IntN(7)-3))
}

// anyQuota is mostly near to what the queue has, or to what it uses.
func anyQuota(r *rand.Rand, m *model) change {
	c := change{name: "Quota", path: anyThere(r, m), borrow: few(r, 20)}
	q := m.queues[c.path]
	if q.Leaf {
		c.nominal = few(r, 12)
	}
	switch r.IntN(8) {
	case 0:
		c.borrow = anyAmount(r)
	case 1:
		c.nominal = anyAmount(r)
	case 2, 3, 4:
		c.borrow = about(r, q.Borrow)
		if q.Leaf {
			c.nominal = about(r, q.Nominal)
		}
	case 5:
		usage, nominal := m.usage(c.path), m.nominal(c.path)
		c.borrow = about(r, am(usage[0]-nominal[0], usage[1]-nominal[1]))
		c.nominal = q.Nominal
	}
	return c
}

// enough is the quota of a leaf with which its head is its own, or just not.
func enough(r *rand.Rand, m *model) change {
	heads := m.heads(func(work api.Work) bool { return work.Demand[0] < 20 && work.Demand[1] < 20 })
	if len(heads) == 0 {
		return anyQuota(r, m)
	}
	head := m.works[heads[r.IntN(len(heads))]]
	usage := m.usage(head.Path)
	nominal := am(usage[0]+head.Demand[0], usage[1]+head.Demand[1])
	if i := r.IntN(3); i < 2 {
		nominal[i] = max(0, nominal[i]-r.IntN(2))
	}
	return change{name: "Quota", path: head.Path, nominal: nominal, borrow: few(r, 20)}
}

func anyChange(r *rand.Rand, m *model) change {
	switch n := r.IntN(12); {
	case n < 2:
		return enough(r, m)
	case n < 5:
		return anyQuota(r, m)
	case n < 10:
		return change{name: "Move", path: anyThere(r, m), to: anyTarget(r, m)}
	}
	return change{name: "Remove", path: anyThere(r, m)}
}

// TestChangesAsTheModel: towers that change while workloads come and go.
func TestChangesAsTheModel(t *testing.T) {
	r := rand.New(rand.NewPCG(11, 12))
	answers := map[string]map[api.Errno]int{"Remove": {}, "Move": {}, "Quota": {}}
	admitted, evicted := map[string]int{}, 0
	for range 700 {
		w, m := fresh(t), newModel()
		anyTower(t, r, w, m)
		for step := range 100 {
			if step%20 == 0 {
				borrowMuch(t, r, w, m)
			}
			anyCall(t, r, w, m)
			c := anyChange(r, m)
			text, e := bothChange(t, w, m, c)
			answers[c.name][e]++
			admitted[c.name] += strings.Count(text, "+")
			evicted += strings.Count(text, "-")
			alike(t, w, m, c.path, c.to)
		}
		alike(t, w, m, m.paths()...)
		alikeWork(t, w, m)
	}
	for name, errors := range map[string][]api.Errno{
		"Remove": {api.OK, api.ErrPath, api.ErrRoot, api.ErrNone, api.ErrBusy, api.ErrOver},
		"Move":   {api.OK, api.ErrPath, api.ErrRoot, api.ErrNone, api.ErrKind, api.ErrCycle, api.ErrThere, api.ErrDeep, api.ErrOver},
		"Quota":  {api.OK, api.ErrPath, api.ErrRoot, api.ErrNone, api.ErrArg, api.ErrOver},
	} {
		for _, e := range errors {
			if answers[name][e] < 20 {
				t.Errorf("the test tries little: %s was answered %d %d times", name, e, answers[name][e])
			}
		}
	}
	if admitted["Move"] < 100 || admitted["Quota"] < 500 || evicted < 100 {
		t.Errorf("the test tries little: %v were admitted, %d evicted behind changes", admitted, evicted)
	}
}

// TestRefusedChangesLeaveNoTrace: of two towers with the same calls one has many more, which are refused: what both
// answer and tell is the same.
func TestRefusedChangesLeaveNoTrace(t *testing.T) {
	r := rand.New(rand.NewPCG(13, 14))
	over := 0
	for range 60 {
		kept, tried, m := fresh(t), fresh(t), newModel()
		for range 60 {
			before := m.copy()
			seed := rand.NewPCG(r.Uint64(), r.Uint64())
			other := *seed
			if len(m.queues) == 1 {
				anyTower(t, rand.New(seed), kept, m)
				anyTower(t, rand.New(&other), tried, before)
			} else {
				anyCall(t, rand.New(seed), kept, m)
				anyCall(t, rand.New(&other), tried, before)
			}
			for range 20 {
				c := anyChange(r, m)
				want := c.onModel(m.copy())
				if want == api.OK {
					continue
				}
				no(t, want)(c.on(tried))
				over += int(want / api.ErrOver)
			}
			paths := m.paths()
			if one, another := picture(kept, paths), picture(tried, paths); one != another {
				t.Fatalf("P1: what was refused changed the tower from\n%s to\n%s", one, another)
			}
		}
	}
	if over < 1000 {
		t.Errorf("the test tries little: %d would have broken a limit", over)
	}
}
