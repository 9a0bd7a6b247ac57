// Package paths takes the texts apart that say where a queue hangs.
package paths

import (
	"iter"
	"strings"

	"borrow/api"
)

// Root is the path of the root: it has no name.
const Root = ""

const between = "/"

// Valid tells whether a text is a path.
func Valid(path string) bool {
	for name := range Names(path) {
		if !validName(name) {
			return false
		}
	}
	return true
}

// Names gives what stands between the slashes, the name nearest the root first.
// It is no list, since a text may be of any length.
func Names(path string) iter.Seq[string] {
	if path == Root {
		return func(func(string) bool) {}
	}
	return strings.SplitSeq(path, between)
}

// Depth is how many names a path has.
func Depth(path string) int {
	if path == Root {
		return 0
	}
	return strings.Count(path, between) + 1
}

// Split parts a path into that of the cohort in which it hangs and its name.
func Split(path string) (above, name string) {
	cut := strings.LastIndex(path, between)
	if cut < 0 {
		return Root, path
	}
	return path[:cut], path[cut+len(between):]
}

// Join is the path of a name below a path, as memory of its own.
func Join(above, name string) string {
	if above == Root {
		return strings.Clone(name)
	}
	return above + between + name
}

func validName(name string) bool {
	if len(name) < 1 || len(name) > api.MaxName {
		return false
	}
	for i := range len(name) {
		if name[i] < 'a' || name[i] > 'z' {
			return false
		}
	}
	return true
}
