package tree

import (
	"slices"
	"testing"
	"unsafe"

	"borrow/api"
)

var none api.Amount

// sample hangs queues in a root, not in the order of their names.
func sample() *Queue {
	root, x := NewCohort(none), NewCohort(api.Amount{5, 6})
	root.Hang("xy", NewLeaf(api.Amount{1, 2}, none))
	root.Hang("x", x)
	x.Hang("b", NewLeaf(api.Amount{10, 20}, none))
	x.Hang("a", NewCohort(none))
	root.Hang("c", NewLeaf(api.Amount{100, 200}, api.Amount{7, 8}))
	return root
}

func TestAllGoesThroughByName(t *testing.T) {
	want := []string{"", "c", "x", "x/a", "x/b", "xy"}
	root := sample()
	for range 2 {
		var got []string
		for queue := range root.All() {
			got = append(got, queue.Path())
		}
		if !slices.Equal(got, want) {
			t.Errorf("All() gave %q, want %q", got, want)
		}
	}
}

// TestAllIsLeftEarly leaves it at each place: one that went on would panic.
func TestAllIsLeftEarly(t *testing.T) {
	root := sample()
	for most := 1; most <= 6; most++ {
		count := 0
		for range root.All() {
			count++
			if count == most {
				break
			}
		}
		if count != most {
			t.Errorf("All() gave %d, want %d", count, most)
		}
	}
}

func TestFind(t *testing.T) {
	root := sample()
	for _, path := range []string{"", "c", "x", "x/a", "x/b", "xy"} {
		if queue := root.Find(path); queue == nil || queue.Path() != path {
			t.Errorf("Find(%q) found %+v", path, queue)
		}
	}
	for _, path := range []string{"a", "b", "x/c", "x/x", "c/c", "x/b/a", "/", "x/", "/x", "X"} {
		if queue := root.Find(path); queue != nil {
			t.Errorf("Find(%q) found %+v", path, queue)
		}
	}
	if below := root.Find("x").Find("b"); below != root.Find("x/b") {
		t.Errorf("Find from within found %+v", below)
	}
}

func TestWhatAQueueIs(t *testing.T) {
	root := sample()
	for _, c := range []struct {
		path            string
		leaf            bool
		nominal, borrow api.Amount
	}{
		{"", false, api.Amount{111, 222}, none},
		{"x", false, api.Amount{10, 20}, api.Amount{5, 6}},
		{"x/a", false, none, none},
		{"c", true, api.Amount{100, 200}, api.Amount{7, 8}},
	} {
		queue := root.Find(c.path)
		if limit := (api.Amount{c.nominal[0] + c.borrow[0], c.nominal[1] + c.borrow[1]}); queue.Limit() != limit {
			t.Errorf("%q: the limit is %v, want %v", c.path, queue.Limit(), limit)
		}
		if queue.Leaf() != c.leaf || queue.Nominal() != c.nominal || queue.Borrow() != c.borrow {
			t.Errorf("%q: %v, %v, %v, want %+v", c.path, queue.Leaf(), queue.Nominal(), queue.Borrow(), c)
		}
	}
}

// TestNoNameIsKept writes over a name after it was handed in.
func TestNoNameIsKept(t *testing.T) {
	bytes := []byte("abc")
	root := NewCohort(none)
	root.Hang(unsafe.String(&bytes[0], len(bytes)), NewLeaf(none, none))
	copy(bytes, "xyz")
	if root.Find("abc") == nil || root.Find("xyz") != nil {
		t.Error("the name is the caller's memory still")
	}
}

func TestUpGoesToTheRoot(t *testing.T) {
	root := sample()
	want := []string{"x/b", "x", ""}
	var got []string
	for queue := range root.Find("x/b").Up() {
		got = append(got, queue.Path())
	}
	if !slices.Equal(got, want) {
		t.Errorf("Up() gave %q, want %q", got, want)
	}
	for most := 1; most <= 3; most++ { // left early: one that went on would panic
		count := 0
		for range root.Find("x/b").Up() {
			count++
			if count == most {
				break
			}
		}
	}
}

func TestIn(t *testing.T) {
	root := sample()
	for _, c := range []struct {
		path, other string
		want        bool
	}{
		{"x/b", "x/b", true}, {"x/b", "x", true}, {"x/b", "", true}, {"", "", true},
		{"x", "x/b", false}, {"", "x", false}, {"xy", "x", false}, {"x/a", "x/b", false}, {"c", "x", false},
	} {
		if got := root.Find(c.path).In(root.Find(c.other)); got != c.want {
			t.Errorf("%q in %q: %v", c.path, c.other, got)
		}
	}
}

// allPaths are those of all queues, as they are gone through.
func allPaths(root *Queue) []string {
	var list []string
	for queue := range root.All() {
		list = append(list, queue.Path())
	}
	return list
}

func TestLeave(t *testing.T) {
	root := sample()
	x := root.Find("x")
	x.Leave()
	if got, want := allPaths(root), []string{"", "c", "xy"}; !slices.Equal(got, want) {
		t.Errorf("left are %q, want %q", got, want)
	}
	if got, want := allPaths(x), []string{"", "a", "b"}; !slices.Equal(got, want) || x.Above() != nil {
		t.Errorf("it has %q, want %q, and hangs in %v", got, want, x.Above())
	}
	if root.Nominal() != (api.Amount{101, 202}) || x.Nominal() != (api.Amount{10, 20}) {
		t.Errorf("the nominals are %v and %v", root.Nominal(), x.Nominal())
	}
	root.Hang("x", x)
	if got, want := allPaths(root), allPaths(sample()); !slices.Equal(got, want) {
		t.Errorf("behind it are %q, want %q", got, want)
	}
}

// TestNobodyIsHeldOnTo: a queue that has left is in no spare room either.
func TestNobodyIsHeldOnTo(t *testing.T) {
	root := sample()
	root.Find("c").Leave()
	root.Find("xy").Leave()
	for _, queue := range root.below[:cap(root.below)][len(root.below):] {
		if queue != nil {
			t.Errorf("%+v is still held", queue)
		}
	}
}

func TestMoveTo(t *testing.T) {
	root := sample()
	root.Find("xy").MoveTo(root.Find("x/a"))
	root.Find("x/a").MoveTo(root)
	root.Find("x/b").MoveTo(root)
	root.Find("x").MoveTo(root.Find("a"))
	if got, want := allPaths(root), []string{"", "a", "a/x", "a/xy", "b", "c"}; !slices.Equal(got, want) {
		t.Errorf("there are %q, want %q", got, want)
	}
	if root.Find("a/x").Above() != root.Find("a") || root.Find("b").Above() != root || root.Above() != nil {
		t.Error("what hangs in what is not where it is found")
	}
	if root.Nominal() != (api.Amount{111, 222}) || root.Find("a").Nominal() != (api.Amount{1, 2}) {
		t.Errorf("the nominals are %v and %v", root.Nominal(), root.Find("a").Nominal())
	}
}

func TestEmptyAndDepth(t *testing.T) {
	root := sample()
	for _, c := range []struct {
		path  string
		empty bool
		depth int
	}{{"", false, 0}, {"x", false, 1}, {"xy", true, 1}, {"x/a", true, 2}, {"x/b", true, 2}} {
		if queue := root.Find(c.path); queue.Empty() != c.empty || queue.Depth() != c.depth {
			t.Errorf("%q: %v, %d, want %+v", c.path, queue.Empty(), queue.Depth(), c)
		}
	}
}

// TestSetQuota: of a cohort the borrow alone.
func TestSetQuota(t *testing.T) {
	root := sample()
	root.Find("x/b").SetQuota(api.Amount{3, 4}, api.Amount{1, 1})
	root.Find("x").SetQuota(api.Amount{9, 9}, api.Amount{2, 2})
	if got := root.Find("x/b").Limit(); got != (api.Amount{4, 5}) {
		t.Errorf("the limit of the leaf is %v", got)
	}
	if got := root.Find("x"); got.Nominal() != (api.Amount{3, 4}) || got.Limit() != (api.Amount{5, 6}) {
		t.Errorf("the cohort has %v, %v", got.Nominal(), got.Limit())
	}
}
