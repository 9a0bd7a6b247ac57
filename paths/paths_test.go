package paths

import (
	"slices"
	"testing"
)

func TestValid(t *testing.T) {
	for _, path := range []string{"", "a", "z", "abcd", "a/b", "abcd/abcd/abcd/abcd", "a/b/c/d/e/f"} {
		if !Valid(path) {
			t.Errorf("Valid(%q) = false", path)
		}
	}
	for _, text := range []string{"/", "a/", "/a", "a//b", "abcde", "a/abcde", "A", "a/B", "`", "{", "ä", "a\x00", " ", "\xff"} {
		if Valid(text) {
			t.Errorf("Valid(%q) = true", text)
		}
	}
}

func TestNamesAndDepth(t *testing.T) {
	for _, c := range []struct {
		path  string
		names []string
	}{
		{"", nil},
		{"a", []string{"a"}},
		{"ab/c/d", []string{"ab", "c", "d"}},
	} {
		if got := slices.Collect(Names(c.path)); !slices.Equal(got, c.names) {
			t.Errorf("Names(%q) = %q", c.path, got)
		}
		if got := Depth(c.path); got != len(c.names) {
			t.Errorf("Depth(%q) = %d", c.path, got)
		}
	}
}

func TestSplitAndJoin(t *testing.T) {
	for _, c := range []struct{ path, above, name string }{
		{"a", "", "a"},
		{"ab/c", "ab", "c"},
		{"ab/c/d", "ab/c", "d"},
	} {
		if above, name := Split(c.path); above != c.above || name != c.name {
			t.Errorf("Split(%q) = %q, %q", c.path, above, name)
		}
		if got := Join(c.above, c.name); got != c.path {
			t.Errorf("Join(%q, %q) = %q", c.above, c.name, got)
		}
	}
}
