package label

import (
	"strconv"
	"strings"

	"coinage/api"
)

// What stands between the groups of a text of runs, and in a group between its
// first number and its last one.
const (
	comma  = ", "
	hyphen = "-"
)

// Runs returns the runs of l; ErrArg if l is not strictly ascending, or one of
// it is not the number of a die.
func Runs(l []int) (string, Errno) {
	if !isAscending(l) {
		return "", api.ErrArg
	}
	var groups []string
	for len(l) > 0 {
		n := groupLength(l)
		groups = append(groups, group(l[0], l[n-1]))
		l = l[n:]
	}
	return strings.Join(groups, comma), api.OK
}

// Expand returns the list whose runs s is; ErrForm if there is none.
func Expand(s string) ([]int, Errno) {
	list, found := numbers(s)
	// A list has one text only, so this refuses all other ways to write it.
	if text, _ := Runs(list); !found || text != s {
		return nil, api.ErrForm
	}
	return list, api.OK
}

// isAscending reports whether the numbers of l are those of dies, each greater
// than the one before it.
func isAscending(l []int) bool {
	for i, n := range l {
		if !isNumber(n) || i > 0 && n <= l[i-1] {
			return false
		}
	}
	return true
}

// groupLength returns how many numbers at the beginning of l, which is not
// empty, are consecutive.
func groupLength(l []int) int {
	n := 1
	for n < len(l) && l[n] == l[n-1]+1 {
		n++
	}
	return n
}

// group returns the text of the numbers from first to last.
func group(first, last int) string {
	if first == last {
		return strconv.Itoa(first)
	}
	return strconv.Itoa(first) + hyphen + strconv.Itoa(last)
}

// numbers returns the numbers of all groups of s; false if these have not the
// form of groups, or their numbers are not those of dies, ascending.
func numbers(s string) ([]int, bool) {
	if s == "" {
		return nil, true
	}
	var list []int
	next := 1
	for text := range strings.SplitSeq(s, comma) {
		first, last, found := ends(text)
		// To stop at the first number that does not ascend keeps the list short,
		// however long the text is.
		if !found || first < next || last < first || last > api.MaxDie {
			return nil, false
		}
		for next = first; next <= last; next++ {
			list = append(list, next)
		}
	}
	return list, true
}

// ends returns the first and the last number of a group; false if the text has
// not the form of one.
func ends(text string) (int, int, bool) {
	first, last, pair := strings.Cut(text, hyphen)
	if !pair {
		last = first
	}
	from, e1 := strconv.Atoi(first)
	to, e2 := strconv.Atoi(last)
	return from, to, e1 == nil && e2 == nil
}
