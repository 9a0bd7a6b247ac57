package borrow_test

import (
	"math/rand/v2"
	"slices"
	"strings"
	"testing"

	"borrow/api"
	"borrow/borrow"
)

// few is an amount of few units, so that workloads get into each other's way.
func few(r *rand.Rand, most int) api.Amount { return am(r.IntN(most+1), r.IntN(most+1)) }

// anyQueue is a queue below one that is there, mostly a leaf.
func anyQueue(r *rand.Rand, m *model) api.Queue {
	q := api.Queue{Path: anyPath(r, m), Leaf: r.IntN(3) > 0, Borrow: few(r, 4+r.IntN(30))}
	if q.Leaf {
		q.Nominal = few(r, 9)
	}
	return q
}

// anyTower makes queues: such as come, or in every other tower leaves at several depths, which may borrow much.
func anyTower(t *testing.T, r *rand.Rand, w *borrow.Tower, m *model) {
	t.Helper()
	if r.IntN(2) == 0 {
		for range 6 + r.IntN(20) {
			both(t, w, m, anyQueue(r, m))
		}
		return
	}
	for _, path := range []string{"x", "x/y", "xy"} {
		both(t, w, m, api.Queue{Path: path, Borrow: few(r, 6)})
	}
	for _, path := range []string{"a", "x/a", "x/b", "x/y/a", "x/y/b", "xa", "xy/a"} {
		both(t, w, m, api.Queue{Path: path, Leaf: true, Nominal: few(r, 9), Borrow: few(r, 40)})
	}
}

// anyLeaf is the path of a leaf, or now and then of something else.
func anyLeaf(r *rand.Rand, m *model) string {
	paths := m.paths()
	if r.IntN(20) > 0 {
		paths = slices.DeleteFunc(paths, func(path string) bool { return !m.queues[path].Leaf })
	}
	if len(paths) == 0 {
		return anyPath(r, m)
	}
	return paths[r.IntN(len(paths))]
}

// anyWork is the number of one that is there, or now and then of one that is not.
func anyWork(r *rand.Rand, m *model) int {
	if len(m.works) == 0 || r.IntN(20) == 0 {
		return r.IntN(m.last+3) - 1
	}
	number := 1 + r.IntN(m.last)
	for _, there := m.works[number]; !there; _, there = m.works[number] {
		number = 1 + r.IntN(m.last)
	}
	return number
}

func anyDemand(r *rand.Rand) api.Amount {
	switch r.IntN(60) {
	case 0:
		return anyAmount(r) // mostly far too great
	case 1, 2:
		return none
	case 3, 4, 5, 6, 7, 8, 9, 10:
		return of(r.IntN(2), r.IntN(9))
	}
	return few(r, 5)
}

// borrowMuch brings many workloads to one leaf, so that others will have to put them out.
func borrowMuch(t *testing.T, r *rand.Rand, w *borrow.Tower, m *model) {
	t.Helper()
	for range r.IntN(12) {
		bothFinish(t, w, m, anyWork(r, m))
	}
	leaf := anyLeaf(r, m)
	for range 6 {
		bothSubmit(t, w, m, leaf, few(r, 8))
	}
}

// anyCall does one call on both, and gives the events.
func anyCall(t *testing.T, r *rand.Rand, w *borrow.Tower, m *model) string {
	t.Helper()
	switch n := r.IntN(24); {
	case n == 0:
		both(t, w, m, anyQueue(r, m))
		return ""
	case n < 4:
		text, _ := bothChange(t, w, m, anyChange(r, m))
		return text
	case n < 14:
		return bothSubmit(t, w, m, anyLeaf(r, m), anyDemand(r))
	}
	return bothFinish(t, w, m, anyWork(r, m))
}

// TestWorkloadsAsTheModel: towers of many shapes, with much coming and going.
func TestWorkloadsAsTheModel(t *testing.T) {
	r := rand.New(rand.NewPCG(5, 6))
	admitted, evicted, several := 0, 0, 0
	for range 600 {
		w, m := fresh(t), newModel()
		anyTower(t, r, w, m)
		for step := range 80 {
			if step%16 == 0 {
				borrowMuch(t, r, w, m)
			}
			text := anyCall(t, r, w, m)
			admitted += strings.Count(text, "+")
			evicted += strings.Count(text, "-")
			several += min(1, strings.Count(text, "-")/2)
		}
		alike(t, w, m, m.paths()...)
		alikeWork(t, w, m)
	}
	if admitted < 10000 || evicted < 500 || several < 50 {
		t.Errorf("the test tries little: %d admitted, %d evicted, %d times several", admitted, evicted, several)
	}
}

// P8

// queues is what the tower tells of these paths.
func queues(t *testing.T, w *borrow.Tower, paths []string) map[string]api.Queue {
	t.Helper()
	all := map[string]api.Queue{}
	for _, path := range paths {
		q, e := w.Queue(path)
		if e != api.OK {
			t.Fatalf("P9: Queue(%q) = %d", path, e)
		}
		all[path] = q
	}
	return all
}

// within tells whether, with a demand more in a leaf, no queue from it to the root is above its limit.
func within(all map[string]api.Queue, leaf string, demand api.Amount) bool {
	for path, q := range all {
		for i := range demand {
			if below(leaf, path) && q.Usage[i]+demand[i] > q.Nominal[i]+q.Borrow[i] {
				return false
			}
		}
	}
	return true
}

// settled tells from what the tower tells alone whether no limit is broken and no head fits or is its leaf's own.
func settled(t *testing.T, w *borrow.Tower, all map[string]api.Queue) {
	t.Helper()
	for path, q := range all {
		if !within(all, path, none) {
			t.Fatalf("P8: a limit is broken from %q on: %+v", path, all)
		}
		if len(q.Waiting) == 0 {
			continue
		}
		head, e := w.Work(q.Waiting[0])
		if e != api.OK || head.Admitted || head.Path != path {
			t.Fatalf("P9: the head of %+v is %+v, %d", q, head, e)
		}
		if within(all, path, head.Demand) || isOwn(q, head.Demand) {
			t.Fatalf("P8: the head %+v waits in %+v", head, all)
		}
	}
}

func isOwn(q api.Queue, demand api.Amount) bool {
	return q.Usage[0]+demand[0] <= q.Nominal[0] && q.Usage[1]+demand[1] <= q.Nominal[1]
}

// TestWhatComesOfIt: behind every call no limit is broken and no head fits; and who asks for its leaf's own, where nobody
// waits, has it at once.
func TestWhatComesOfIt(t *testing.T) {
	r := rand.New(rand.NewPCG(7, 8))
	atOnce := 0
	for range 100 {
		w, m := fresh(t), newModel()
		anyTower(t, r, w, m)
		for range 60 {
			anyCall(t, r, w, m)
			settled(t, w, queues(t, w, m.paths()))
			leaf, demand := anyLeaf(r, m), few(r, 7)
			q, e := w.Queue(leaf)
			if e != api.OK || !q.Leaf || len(q.Waiting) > 0 || !isOwn(q, demand) || len(m.works) == api.MaxWork {
				continue
			}
			bothSubmit(t, w, m, leaf, demand)
			work, _ := w.Work(m.last)
			if !work.Admitted {
				t.Fatalf("P8: %v of %+v is not admitted at once", demand, q)
			}
			settled(t, w, queues(t, w, m.paths()))
			atOnce++
		}
	}
	if atOnce < 200 {
		t.Errorf("the test tries little: %d were admitted at once", atOnce)
	}
}
