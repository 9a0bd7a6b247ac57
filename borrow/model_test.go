package borrow_test

import (
	"fmt"
	"maps"
	"math/big"
	"math/rand/v2"
	"regexp"
	"slices"
	"strings"
	"testing"

	"borrow/api"
	"borrow/borrow"
)

var aPath = regexp.MustCompile(`\A([a-z]{1,4}(/[a-z]{1,4})*)?\z`)

// model is a tower as plainly as can be: the queues by their paths, a nominal only where it was given; the lines of
// the leaves; the admitted workloads as they were admitted.
type model struct {
	queues   map[string]api.Queue
	lines    map[string][]int
	admitted []int
	works    map[int]api.Work
	last     int
}

func newModel() *model {
	return &model{queues: map[string]api.Queue{"": {}}, lines: map[string][]int{}, works: map[int]api.Work{}}
}

func (m *model) paths() []string { return slices.Sorted(maps.Keys(m.queues)) }

// create does what P4 asks for.
func (m *model) create(q api.Queue) api.Errno {
	names := strings.Split(q.Path, "/")
	above, inSome := m.queues[strings.Join(names[:len(names)-1], "/")]
	_, there := m.queues[q.Path]
	switch {
	case !aPath.MatchString(q.Path):
		return api.ErrPath
	case q.Path == "":
		return api.ErrRoot
	case !between(q.Nominal) || !between(q.Borrow):
		return api.ErrArg
	case len(names) > api.MaxDepth:
		return api.ErrDeep
	case there:
		return api.ErrThere
	case !inSome:
		return api.ErrNone
	case above.Leaf:
		return api.ErrKind
	case len(m.queues) == api.MaxQueues:
		return api.ErrMany
	}
	m.queues[q.Path] = q
	return api.OK
}

func between(a api.Amount) bool {
	return a[0] >= 0 && a[1] >= 0 && a[0] <= api.MaxUnits && a[1] <= api.MaxUnits
}

// submit does what P6 asks for.
func (m *model) submit(path string, demand api.Amount) (int, api.Errno) {
	q, there := m.queues[path]
	switch {
	case !aPath.MatchString(path):
		return 0, api.ErrPath
	case !there:
		return 0, api.ErrNone
	case !q.Leaf:
		return 0, api.ErrKind
	case !between(demand):
		return 0, api.ErrArg
	case len(m.works) == api.MaxWork:
		return 0, api.ErrMany
	}
	m.last++
	m.works[m.last] = api.Work{Path: path, Demand: demand}
	m.lines[path] = append(m.lines[path], m.last)
	return m.last, api.OK
}

// finish does what P6 asks for.
func (m *model) finish(number int) api.Errno {
	work, there := m.works[number]
	if !there {
		return api.ErrWork
	}
	m.lines[work.Path] = leave(m.lines[work.Path], number)
	m.admitted = leave(m.admitted, number)
	delete(m.works, number)
	return api.OK
}

func leave(list []int, number int) []int {
	return slices.DeleteFunc(slices.Clone(list), func(n int) bool { return n == number })
}

// below tells whether a path is this one or lies below it.
func below(path, above string) bool {
	return above == "" || path == above || strings.HasPrefix(path, above+"/")
}

func (m *model) nominal(path string) (sum api.Amount) {
	for each, q := range m.queues {
		if below(each, path) {
			sum = am(sum[0]+q.Nominal[0], sum[1]+q.Nominal[1])
		}
	}
	return sum
}

func (m *model) usage(path string) (sum api.Amount) {
	for _, number := range m.admitted {
		if work := m.works[number]; below(work.Path, path) {
			sum = am(sum[0]+work.Demand[0], sum[1]+work.Demand[1])
		}
	}
	return sum
}

// tell does what P9 asks for.
func (m *model) tell(path string) (api.Queue, api.Errno) {
	if !aPath.MatchString(path) {
		return api.Queue{}, api.ErrPath
	}
	q, there := m.queues[path]
	if !there {
		return api.Queue{}, api.ErrNone
	}
	q.Nominal, q.Usage, q.Waiting = m.nominal(path), m.usage(path), m.lines[path]
	return q, api.OK
}

// short tells whether a workload is short of a resource in a queue.
func (m *model) short(work api.Work, path string, resource int) bool {
	limit := m.nominal(path)[resource] + m.queues[path].Borrow[resource]
	return below(work.Path, path) && m.usage(path)[resource]+work.Demand[resource] > limit
}

func (m *model) fits(work api.Work) bool {
	for path := range m.queues {
		if m.short(work, path, 0) || m.short(work, path, 1) {
			return false
		}
	}
	return true
}

// over is by how much with a workload its leaf would be above its nominal.
func (m *model) over(work api.Work, resource int) int {
	return max(0, m.usage(work.Path)[resource]+work.Demand[resource]-m.nominal(work.Path)[resource])
}

func (m *model) own(work api.Work) bool { return m.over(work, 0) == 0 && m.over(work, 1) == 0 }

// victim tells whether one workload is in the way of another.
func (m *model) victim(work, of api.Work) bool {
	for path := range m.queues {
		for resource := range 2 {
			above := m.usage(work.Path)[resource] > m.nominal(work.Path)[resource]
			if below(work.Path, path) && m.short(of, path, resource) && above && work.Demand[resource] > 0 {
				return true
			}
		}
	}
	return false
}

func (m *model) share(work api.Work) *big.Rat {
	greatest := new(big.Rat)
	for resource, all := range m.nominal("") {
		if all == 0 {
			continue
		}
		if part := big.NewRat(int64(m.over(work, resource)), int64(all)); part.Cmp(greatest) > 0 {
			greatest = part
		}
	}
	return greatest
}

// heads are the heads for which something holds, by their leaves' paths.
func (m *model) heads(holds func(api.Work) bool) (list []int) {
	for _, path := range m.paths() {
		if line := m.lines[path]; len(line) > 0 && holds(m.works[line[0]]) {
			list = append(list, line[0])
		}
	}
	return list
}

// look does what P7 asks for, and gives the events as a text.
func (m *model) look() string {
	text := ""
	for list := m.heads(m.own); len(list) > 0; list = m.heads(m.own) {
		for !m.fits(m.works[list[0]]) {
			text += m.evictFor(m.works[list[0]])
		}
		text += m.admit(list[0])
	}
	for list := m.heads(m.fits); len(list) > 0; list = m.heads(m.fits) {
		slices.Sort(list)
		text += m.admit(slices.MinFunc(list, func(a, b int) int {
			return m.share(m.works[a]).Cmp(m.share(m.works[b]))
		}))
	}
	return text
}

func (m *model) evictFor(head api.Work) string {
	for _, number := range slices.Backward(m.admitted) {
		if work := m.works[number]; m.victim(work, head) {
			m.admitted = leave(m.admitted, number)
			m.lines[work.Path] = append([]int{number}, m.lines[work.Path]...)
			work.Admitted = false
			m.works[number] = work
			return fmt.Sprintf("-%d", number)
		}
	}
	panic("nobody is in the way")
}

func (m *model) admit(number int) string {
	work := m.works[number]
	m.lines[work.Path] = m.lines[work.Path][1:]
	m.admitted = append(m.admitted, number)
	work.Admitted = true
	m.works[number] = work
	return fmt.Sprintf("+%d", number)
}

// settle is what a call tells that was answered so.
func (m *model) settle(e api.Errno) string {
	if e != api.OK {
		return ""
	}
	return m.look()
}

// both makes a queue in the tower and in the model.
func both(t *testing.T, w *borrow.Tower, m *model, q api.Queue) {
	t.Helper()
	var events []api.Event
	var e api.Errno
	if q.Leaf {
		events, e = w.Leaf(q.Path, q.Nominal, q.Borrow)
	} else {
		events, e = w.Cohort(q.Path, q.Borrow)
	}
	want := m.create(q)
	if text := m.settle(want); e != want || spell(events) != text {
		t.Fatalf("P4: %+v: the answer is %q, %d, want %q, %d", q, spell(events), e, text, want)
	}
}

// bothSubmit brings a workload to the tower and to the model.
func bothSubmit(t *testing.T, w *borrow.Tower, m *model, path string, demand api.Amount) string {
	t.Helper()
	n, events, e := w.Submit(path, demand)
	number, want := m.submit(path, demand)
	text := m.settle(want)
	if n != number || e != want || spell(events) != text {
		t.Fatalf("P6, P7: Submit(%q, %v) = %d, %q, %d, want %d, %q, %d", path, demand, n, spell(events), e, number, text, want)
	}
	return text
}

// bothFinish ends a workload of the tower and of the model.
func bothFinish(t *testing.T, w *borrow.Tower, m *model, number int) string {
	t.Helper()
	events, e := w.Finish(number)
	want := m.finish(number)
	text := m.settle(want)
	if e != want || spell(events) != text {
		t.Fatalf("P6, P7: Finish(%d) = %q, %d, want %q, %d", number, spell(events), e, text, want)
	}
	return text
}

// alike holds against each other what both tell of these paths.
func alike(t *testing.T, w *borrow.Tower, m *model, paths ...string) {
	t.Helper()
	for _, path := range paths {
		got, e := w.Queue(path)
		if want, f := m.tell(path); !same(got, want) || e != f {
			t.Fatalf("P9: Queue(%q) = %+v, %d, want %+v, %d", path, got, e, want, f)
		}
	}
}

// alikeWork holds against each other what both tell of all workloads that ever came, and of one that did not.
func alikeWork(t *testing.T, w *borrow.Tower, m *model) {
	t.Helper()
	for number := range m.last + 2 {
		want, there := m.works[number]
		got, e := w.Work(number)
		if got != want || (e == api.OK) != there || !there && e != api.ErrWork {
			t.Fatalf("P9: Work(%d) = %+v, %d, want %+v, %v", number, got, e, want, there)
		}
	}
}

// anyPath is mostly a path below one that is there.
func anyPath(r *rand.Rand, m *model) string {
	names := []string{"a", "b", "z", "ab", "abcd", "zzzz", "m", "ba", "A", "", "abcde", "a/b", "a{"}
	name := names[r.IntN(len(names))]
	if r.IntN(4) > 0 {
		name = names[r.IntN(8)]
	}
	if r.IntN(3) == 0 {
		return name
	}
	there := m.paths() // sorted, so that the test is the same each time
	return strings.TrimPrefix(there[r.IntN(len(there))]+"/"+name, "/")
}

func anyAmount(r *rand.Rand) api.Amount {
	var a api.Amount
	for i := range a {
		a[i] = r.IntN(api.MaxUnits + 1)
		if r.IntN(20) == 0 {
			bad := noUnits()
			a[i] = bad[r.IntN(len(bad))]
		}
	}
	return a
}

func TestAsTheModel(t *testing.T) {
	r := rand.New(rand.NewPCG(1, 2))
	for range 150 {
		w, m := fresh(t), newModel()
		for range 80 {
			q := api.Queue{Path: anyPath(r, m), Leaf: r.IntN(2) == 0, Borrow: anyAmount(r)}
			if q.Leaf {
				q.Nominal = anyAmount(r)
			}
			both(t, w, m, q)
			alike(t, w, m, q.Path, q.Path+"/a", q.Path+"/")
			alike(t, w, m, m.paths()...)
		}
	}
}

// TestEachShortText: every text of up to 10 slashes and letters, and of up to 5 with others between.
func TestEachShortText(t *testing.T) {
	w, m := fresh(t), newModel()
	both(t, w, m, api.Queue{Path: "a"})
	both(t, w, m, api.Queue{Path: "a/a", Leaf: true, Nominal: am(3, 4)})
	both(t, w, m, api.Queue{Path: "aa", Leaf: true, Nominal: am(1, 2)})
	eachText("a/", 10, func(text string) { tryText(t, w, m, text) })
	eachText("a/z{`A", 5, func(text string) { tryText(t, w, m, text) })
}

// tryText asks for a queue, and makes it where it can be made.
func tryText(t *testing.T, w *borrow.Tower, m *model, text string) {
	t.Helper()
	alike(t, w, m, text)
	both(t, w, m, api.Queue{Path: text, Borrow: am(-1, 0)})
	both(t, w, m, api.Queue{Path: text, Borrow: am(1, 0)})
	alike(t, w, m, text)
}

// eachText gives every text of these letters up to a length.
func eachText(letters string, most int, give func(string)) {
	level := []string{""}
	for range most + 1 {
		var longer []string
		for _, text := range level {
			give(text)
			for _, letter := range letters {
				longer = append(longer, text+string(letter))
			}
		}
		level = longer
	}
}
