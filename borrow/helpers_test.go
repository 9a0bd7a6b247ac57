package borrow_test

import (
	"fmt"
	"math"
	"slices"
	"strings"
	"testing"

	"borrow/api"
	"borrow/borrow"
)

func am(a, b int) api.Amount { return api.Amount{a, b} }

var none = am(0, 0)

// fresh is a new tower.
func fresh(t *testing.T) *borrow.Tower {
	t.Helper()
	w := borrow.New()
	if w == nil {
		t.Fatal("P3: New() is nil")
	}
	return w
}

// ok takes the answer of a call that is to be done and to tell nothing.
func ok(t *testing.T) func([]api.Event, api.Errno) { return does(t, "") }

// does takes the answer of a call that is to be done and to tell these events.
func does(t *testing.T, want string) func([]api.Event, api.Errno) {
	return func(events []api.Event, e api.Errno) {
		t.Helper()
		if got := spell(events); got != want || e != api.OK {
			t.Errorf("the answer is %q, %d, want %q, OK", got, e, want)
		}
	}
}

// spell writes events as a text: + for who was admitted, - for who was evicted.
func spell(events []api.Event) string {
	text := ""
	for _, event := range events {
		switch event.Kind {
		case api.Admitted:
			text += fmt.Sprintf("+%d", event.Work)
		case api.Evicted:
			text += fmt.Sprintf("-%d", event.Work)
		default:
			text += fmt.Sprintf("?%+v", event)
		}
	}
	return text
}

// submits brings a workload that is to be taken, to have this number and to tell these events.
func submits(t *testing.T, w *borrow.Tower, path string, demand api.Amount, number int, want string) {
	t.Helper()
	n, events, e := w.Submit(path, demand)
	if got := spell(events); n != number || got != want || e != api.OK {
		t.Errorf("Submit(%q, %v) = %d, %q, %d, want %d, %q, OK", path, demand, n, got, e, number, want)
	}
}

// refused brings a workload that is not to be taken.
func refused(t *testing.T, w *borrow.Tower, path string, demand api.Amount, want api.Errno) {
	t.Helper()
	if n, events, e := w.Submit(path, demand); n != 0 || len(events) > 0 || e != want {
		t.Errorf("P6: Submit(%.40q, %v) = %d, %q, %d, want nothing, %d", path, demand, n, spell(events), e, want)
	}
}

// works asks for a workload that is there.
func works(t *testing.T, w *borrow.Tower, number int, want api.Work) {
	t.Helper()
	if got, e := w.Work(number); got != want || e != api.OK {
		t.Errorf("P9: Work(%d) = %+v, %d, want %+v", number, got, e, want)
	}
}

// unknown asks for and ends workloads that are not there.
func unknown(t *testing.T, w *borrow.Tower, numbers ...int) {
	t.Helper()
	for _, number := range numbers {
		if got, e := w.Work(number); got != (api.Work{}) || e != api.ErrWork {
			t.Errorf("P9: Work(%d) = %+v, %d, want nothing, ErrWork", number, got, e)
		}
		no(t, api.ErrWork)(w.Finish(number))
	}
}

// uses asks what is used in a queue and who waits there.
func uses(t *testing.T, w *borrow.Tower, path string, usage api.Amount, waiting ...int) {
	t.Helper()
	if q, e := w.Queue(path); q.Usage != usage || !slices.Equal(q.Waiting, waiting) || e != api.OK {
		t.Errorf("P9: Queue(%q) = %+v, %d, want usage %v, waiting %v", path, q, e, usage, waiting)
	}
}

// no takes the answer of a call that is to be refused.
func no(t *testing.T, want api.Errno) func([]api.Event, api.Errno) {
	return func(events []api.Event, e api.Errno) {
		t.Helper()
		if len(events) > 0 || e != want {
			t.Errorf("the answer is %v, %d, want nothing, %d", events, e, want)
		}
	}
}

// same tells whether two queues are told alike; an empty list may be nil or not.
func same(a, b api.Queue) bool { return fmt.Sprintf("%#v", trim(a)) == fmt.Sprintf("%#v", trim(b)) }

func trim(q api.Queue) api.Queue {
	if len(q.Waiting) == 0 {
		q.Waiting = nil
	}
	return q
}

// told asks for a queue that is there.
func told(t *testing.T, w *borrow.Tower, want api.Queue) {
	t.Helper()
	if got, e := w.Queue(want.Path); !same(got, want) || e != api.OK {
		t.Errorf("P9: Queue(%q) = %+v, %d, want %+v", want.Path, got, e, want)
	}
}

// untold asks for a queue that is not there.
func untold(t *testing.T, w *borrow.Tower, path string, want api.Errno) {
	t.Helper()
	if got, e := w.Queue(path); !same(got, api.Queue{}) || e != want {
		t.Errorf("P9: Queue(%q) = %+v, %d, want nothing, %d", path, got, e, want)
	}
}

// picture is all that the tower tells of these paths, of all queues, and of its first workloads.
func picture(w *borrow.Tower, paths []string) string {
	var text strings.Builder
	for q := range w.All() {
		fmt.Fprintf(&text, "%+v\n", q)
	}
	for _, path := range paths {
		q, e := w.Queue(path)
		fmt.Fprintf(&text, "%q: %+v, %d\n", path, q, e)
	}
	for number := range 60 {
		work, e := w.Work(number)
		fmt.Fprintf(&text, "%d: %+v, %d\n", number, work, e)
	}
	return text.String()
}

// fill makes queues until there are MaxQueues, the root and these many among them.
func fill(t *testing.T, w *borrow.Tower, there int) {
	t.Helper()
	for i := there; i < api.MaxQueues; i++ {
		ok(t)(w.Cohort("f"+string(rune('a'+i)), none))
	}
}

// noPaths are texts that are no path.
func noPaths() []string {
	return []string{
		"/", "//", "/a", "a/", "a//b", "x/", "x//a", "/x", "x/a/", "a/b/c/d/", "/a/b/c/d",
		"abcde", "x/abcde", "abcde/a", "A", "aB", "x/A", "X/a", "a/b/c/d/e/F", "A/b/c/d/e",
		" ", "a ", " a", "a b", "a\n", "\na", "a\x00", "\x00", "a.b", ".", "..", "x/..", "a-b", "a_b", "a\\b",
		"0", "a1", "x/1", "`", "{", "a`", "a{", "@", "[", "ä", "aä", "ß", "é", "ａ", "а", "\xff", "a\xff", "\xe1", "\xc3", "a\u0301",
		strings.Repeat("a", 1<<16), strings.Repeat("/", 1<<16), strings.Repeat("a/", 1<<16), strings.Repeat("abcd/", 1<<14) + "A",
	}
}

// noUnits are numbers that no amount may hold.
func noUnits() []int {
	return []int{
		-1, -2, -api.MaxUnits, -api.MaxUnits - 1, api.MaxUnits + 1, 2 * api.MaxUnits,
		math.MaxInt8 * 100, 1 << 16, 1 << 31, 1 << 32, 1<<32 + 5, -1 << 32, 1 << 62, -1 << 62,
		math.MaxInt, math.MaxInt - 1, math.MinInt, math.MinInt + 1,
	}
}

// noAmounts are amounts that may not be.
func noAmounts() []api.Amount {
	var list []api.Amount
	for _, n := range noUnits() {
		list = append(list, am(n, 0), am(0, n), am(n, n), am(n, api.MaxUnits), am(api.MaxUnits, n), am(n, -n))
	}
	return list
}
