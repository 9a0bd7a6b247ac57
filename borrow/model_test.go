package borrow_test

import (
	"maps"
	"math/rand/v2"
	"regexp"
	"slices"
	"strings"
	"testing"

	"borrow/api"
	"borrow/borrow"
)

var aPath = regexp.MustCompile(`\A([a-z]{1,4}(/[a-z]{1,4})*)?\z`)

// model is a tower as plainly as can be: the queues by their paths, a nominal only where it was given.
type model map[string]api.Queue

func newModel() model { return model{"": api.Queue{}} }

// create does what P4 asks for.
func (m model) create(q api.Queue) api.Errno {
	names := strings.Split(q.Path, "/")
	above, inSome := m[strings.Join(names[:len(names)-1], "/")]
	_, there := m[q.Path]
	switch {
	case !aPath.MatchString(q.Path):
		return api.ErrPath
	case q.Path == "":
		return api.ErrRoot
	case !between(q.Nominal) || !between(q.Borrow):
		return api.ErrArg
	case len(names) > api.MaxDepth:
		return api.ErrDeep
	case there:
		return api.ErrThere
	case !inSome:
		return api.ErrNone
	case above.Leaf:
		return api.ErrKind
	case len(m) == api.MaxQueues:
		return api.ErrMany
	}
	m[q.Path] = q
	return api.OK
}

func between(a api.Amount) bool {
	return a[0] >= 0 && a[1] >= 0 && a[0] <= api.MaxUnits && a[1] <= api.MaxUnits
}

// tell does what P9 asks for.
func (m model) tell(path string) (api.Queue, api.Errno) {
	if !aPath.MatchString(path) {
		return api.Queue{}, api.ErrPath
	}
	q, there := m[path]
	if !there {
		return api.Queue{}, api.ErrNone
	}
	if q.Leaf {
		return q, api.OK
	}
	for below, leaf := range m {
		if path == "" || strings.HasPrefix(below, path+"/") {
			q.Nominal[0] += leaf.Nominal[0]
			q.Nominal[1] += leaf.Nominal[1]
		}
	}
	return q, api.OK
}

// both makes a queue in the tower and in the model.
func both(t *testing.T, w *borrow.Tower, m model, q api.Queue) {
	t.Helper()
	var events []api.Event
	var e api.Errno
	if q.Leaf {
		events, e = w.Leaf(q.Path, q.Nominal, q.Borrow)
	} else {
		events, e = w.Cohort(q.Path, q.Borrow)
	}
	if want := m.create(q); e != want || len(events) > 0 {
		t.Fatalf("P4: %+v: the answer is %v, %d, want %d", q, events, e, want)
	}
}

// alike holds against each other what both tell of these paths.
func alike(t *testing.T, w *borrow.Tower, m model, paths ...string) {
	t.Helper()
	for _, path := range paths {
		got, e := w.Queue(path)
		if want, f := m.tell(path); !same(got, want) || e != f {
			t.Fatalf("P9: Queue(%q) = %+v, %d, want %+v, %d", path, got, e, want, f)
		}
	}
}

// anyPath is mostly a path below one that is there.
func anyPath(r *rand.Rand, m model) string {
	names := []string{"a", "b", "z", "ab", "abcd", "zzzz", "m", "ba", "A", "", "abcde", "a/b", "a{"}
	name := names[r.IntN(len(names))]
	if r.IntN(4) > 0 {
		name = names[r.IntN(8)]
	}
	if r.IntN(3) == 0 {
		return name
	}
	there := slices.Sorted(maps.Keys(m)) // so that the test is the same each time
	return strings.TrimPrefix(there[r.IntN(len(there))]+"/"+name, "/")
}

func anyAmount(r *rand.Rand) api.Amount {
	var a api.Amount
	for i := range a {
		a[i] = r.IntN(api.MaxUnits + 1)
		if r.IntN(20) == 0 {
			bad := noUnits()
			a[i] = bad[r.IntN(len(bad))]
		}
	}
	return a
}

func TestAsTheModel(t *testing.T) {
	r := rand.New(rand.NewPCG(1, 2))
	for range 150 {
		w, m := fresh(t), newModel()
		for range 80 {
			q := api.Queue{Path: anyPath(r, m), Leaf: r.IntN(2) == 0, Borrow: anyAmount(r)}
			if q.Leaf {
				q.Nominal = anyAmount(r)
			}
			both(t, w, m, q)
			alike(t, w, m, q.Path, q.Path+"/a", q.Path+"/")
			alike(t, w, m, slices.Sorted(maps.Keys(m))...)
		}
	}
}

// TestEachShortText: every text of up to 10 slashes and letters, and of up to 5 with others between.
func TestEachShortText(t *testing.T) {
	w, m := fresh(t), newModel()
	both(t, w, m, api.Queue{Path: "a"})
	both(t, w, m, api.Queue{Path: "a/a", Leaf: true, Nominal: am(3, 4)})
	both(t, w, m, api.Queue{Path: "aa", Leaf: true, Nominal: am(1, 2)})
	eachText("a/", 10, func(text string) { tryText(t, w, m, text) })
	eachText("a/z{`A", 5, func(text string) { tryText(t, w, m, text) })
}

// tryText asks for a queue, and makes it where it can be made.
func tryText(t *testing.T, w *borrow.Tower, m model, text string) {
	t.Helper()
	alike(t, w, m, text)
	both(t, w, m, api.Queue{Path: text, Borrow: am(-1, 0)})
	both(t, w, m, api.Queue{Path: text, Borrow: am(1, 0)})
	alike(t, w, m, text)
}

// eachText gives every text of these letters up to a length.
func eachText(letters string, most int, give func(string)) {
	level := []string{""}
	for range most + 1 {
		var longer []string
		for _, text := range level {
			give(text)
			for _, letter := range letters {
				longer = append(longer, text+string(letter))
			}
		}
		level = longer
	}
}
