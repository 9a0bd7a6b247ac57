package heap

import (
	"math/rand/v2"
	"slices"
	"strings"
	"testing"
)

func less(a, b int) bool { return a < b }

// drain takes all out.
func drain[T any](h *Heap[T]) []T {
	var list []T
	for thing, some := h.Pop(); some; thing, some = h.Pop() {
		list = append(list, thing)
	}
	return list
}

func TestNothingIsInANewOne(t *testing.T) {
	h := New(less)
	for range 2 {
		if thing, some := h.Pop(); thing != 0 || some {
			t.Errorf("Pop() = %v, %v, want nothing", thing, some)
		}
	}
	h.Push(7)
	if got := drain(h); !slices.Equal(got, []int{7}) {
		t.Errorf("it gave %v, want 7", got)
	}
	if thing, some := h.Pop(); thing != 0 || some {
		t.Errorf("Pop() = %v, %v, want nothing", thing, some)
	}
}

// TestEachOrderIn: whatever the order in which they come, also of equal ones.
func TestEachOrderIn(t *testing.T) {
	for code := range 7 * 7 * 7 * 7 * 7 * 7 {
		var list []int
		h := New(less)
		for range 6 {
			list = append(list, code%7)
			h.Push(code % 7)
			code /= 7
		}
		slices.Sort(list)
		if got := drain(h); !slices.Equal(got, list) {
			t.Fatalf("it gave %v, want %v", got, list)
		}
	}
}

// TestInAndOut mixes both, against a list that is searched.
func TestInAndOut(t *testing.T) {
	r := rand.New(rand.NewPCG(3, 4))
	h := New(less)
	var list []int
	for range 20000 {
		if r.IntN(100) < 49 {
			thing, some := h.Pop()
			if some != (len(list) > 0) || some && thing != slices.Min(list) {
				t.Fatalf("Pop() = %v, %v, of %v", thing, some, list)
			}
			if some {
				at := slices.Index(list, thing)
				list = slices.Delete(list, at, at+1)
			}
			continue
		}
		thing := r.IntN(50)
		h.Push(thing)
		list = append(list, thing)
	}
}

// TestOtherTypesAndOrders: of texts, the longest first, of the same length by their letters.
func TestOtherTypesAndOrders(t *testing.T) {
	h := New(func(a, b string) bool {
		return len(a) > len(b) || len(a) == len(b) && strings.Compare(a, b) < 0
	})
	for _, text := range []string{"b", "", "ccc", "a", "bb", "ccc", "aa"} {
		h.Push(text)
	}
	want := []string{"ccc", "ccc", "aa", "bb", "a", "b", ""}
	if got := drain(h); !slices.Equal(got, want) {
		t.Errorf("it gave %q, want %q", got, want)
	}
}

// TestNothingIsHeldOnTo: what was given out is no longer reached from the heap.
func TestNothingIsHeldOnTo(t *testing.T) {
	h := New(func(a, b *int) bool { return *a < *b })
	for i := range 9 {
		h.Push(&i)
	}
	drain(h)
	for _, thing := range h.things[:cap(h.things)] {
		if thing != nil {
			t.Fatalf("it holds on to %v", *thing)
		}
	}
}
