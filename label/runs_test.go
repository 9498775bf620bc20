package label_test

import (
	"math"
	"slices"
	"strconv"
	"strings"
	"testing"

	"coinage/api"
	"coinage/label"
)

// runsOf is the text of the runs of a strictly ascending list. It writes the
// numbers at which a group begins and ends, as membership in the list has it.
func runsOf(l []int) string {
	var in [1001]bool
	for _, n := range l {
		in[n] = true
	}
	text := ""
	for n := 1; n <= 999; n++ {
		switch {
		case in[n] && !in[n-1]:
			text += ", " + strconv.Itoa(n)
		case in[n] && !in[n+1]:
			text += "-" + strconv.Itoa(n)
		}
	}
	return strings.TrimPrefix(text, ", ")
}

// checkRuns compares the runs of a list, and expands them again.
func checkRuns(t *testing.T, l []int, want string) {
	t.Helper()
	if text, e := label.Runs(l); e != api.OK || text != want {
		t.Fatalf("P5.1: Runs(%v): %q %d, want %q", l, text, e, want)
	}
	if back, e := label.Expand(want); e != api.OK || !slices.Equal(back, l) {
		t.Fatalf("P5.2: Expand(%q): %v %d, want %v", want, back, e, l)
	}
}

// subset lists the numbers from first on whose bits are set.
func subset(first int, bits uint) []int {
	var l []int
	for i := range 64 {
		if bits>>i&1 == 1 {
			l = append(l, first+i)
		}
	}
	return l
}

// between lists the numbers from first to last.
func between(first, last int) []int {
	var l []int
	for n := first; n <= last; n++ {
		l = append(l, n)
	}
	return l
}

// P5.1, P5.2: the examples of the chapter, and the limits.
func TestRunsCases(t *testing.T) {
	for want, l := range map[string][]int{
		"": nil, "1-4, 7, 9-10": {1, 2, 3, 4, 7, 9, 10}, "5-6": {5, 6}, "1": {1}, "999": {999}, "998-999": {998, 999},
		"1-2, 4-5": {1, 2, 4, 5}, "1, 3": {1, 3}, "5, 7-9": {5, 7, 8, 9}, "9-12": {9, 10, 11, 12}, "99-101": {99, 100, 101},
		"1, 999": {1, 999}, "1-999": between(1, 999), "1-499, 501-999": append(between(1, 499), between(501, 999)...),
		"2-998": between(2, 998), "1-3, 11-13": {1, 2, 3, 11, 12, 13},
	} {
		checkRuns(t, l, want)
	}
	checkRuns(t, []int{}, "")
}

// P5.1, P5.2: the runs of all lists of the least numbers, of those around 100,
// and of the greatest ones.
func TestRunsShort(t *testing.T) {
	for _, first := range []int{1, 6, 96, 990} {
		for bits := range uint(1024) {
			l := subset(first, bits)
			checkRuns(t, l, runsOf(l))
		}
	}
}

// P5.1, P5.2: lists of up to 999 numbers, with few and with many gaps.
func TestRunsLong(t *testing.T) {
	seed := uint32(1)
	for round := range 200 {
		var l []int
		for n := 1; n <= 999; n++ {
			seed = seed*1664525 + 1013904223
			if int(seed>>8)%(2+round%40) > 0 == (round%3 > 0) {
				l = append(l, n)
			}
		}
		checkRuns(t, l, runsOf(l))
	}
	var odd []int
	for n := 1; n <= 999; n += 2 {
		odd = append(odd, n)
	}
	checkRuns(t, odd, runsOf(odd))
}

// P5.1: lists that are not strictly ascending, or with a number that is none
// of a die, at any place.
func TestRunsArg(t *testing.T) {
	bad := [][]int{
		{0}, {1000}, {-1}, {math.MinInt}, {math.MaxInt}, {5, 5}, {6, 5}, {1, 2, 2, 3}, {1, 3, 2}, {3, 1, 2}, {1, 2, 3, 1}, {999, 1}, {0, 1}, {-1, 1},
		{999, 1000}, {1, 1000}, {0, 0}, {1000, 1000}, {1000, 999}, {math.MinInt, 1}, {1, math.MinInt}, {1, math.MaxInt}, {math.MaxInt, math.MinInt}, {math.MinInt, math.MaxInt},
		between(0, 999), between(1, 1000), append(between(1, 999), 999), append(between(1, 999), 1000), append(between(1, 999), 1), append([]int{1}, between(1, 999)...),
	}
	for place := range 20 {
		for _, n := range []int{0, -7, 1000, 500, math.MaxInt, math.MinInt} {
			l := between(100, 119)
			l[place] = n
			if place < 19 || n != 500 {
				bad = append(bad, l)
			}
		}
		l := between(100, 119)
		if place > 0 {
			l[place] = l[place-1]
			bad = append(bad, l)
		}
	}
	for _, l := range bad {
		if text, e := label.Runs(l); e != api.ErrArg || text != "" {
			t.Errorf("P5.1: Runs(%v): %q %d", l, text, e)
		}
	}
}

// checkNoRuns asks Expand to refuse a text.
func checkNoRuns(t *testing.T, s string) {
	t.Helper()
	if l, e := label.Expand(s); e != api.ErrForm || len(l) != 0 {
		t.Errorf("P5.1: Expand(%.40q): %.40v %d", s, l, e)
	}
}

// P5.1: texts that are the runs of no list.
func TestExpandForm(t *testing.T) {
	for _, s := range []string{
		"5, 6", "5-5", "6-5", "5, 5", "6, 5", "7, 5-6", "5-6, 7", "5, 6-7", "5-6, 7-8", "5-7, 6-9", "5-7, 6", "5-9, 7", "5-7, 9-8", "1-3, 1-3", "1, 3, 2",
		"0", "0-3", "1000", "999-1000", "1-1000", "-1", "-", "--", "5-", "-5", "5--6", "5-6-7", "-5-6", "5-6-", "05", "5-06", "05-06", "00", "+5", "5-+6", "+5-6",
		",", ", ", ",5", "5,", ", 5", "5, ", "5,7", "5,  7", "5 ,7", "5 , 7", "5;7", "5; 7", "5 7", "5, , 7", "5, 7, ", "5,\t7", "5,\n7", "5,\u00a07",
		" ", " 5", "5 ", "5 - 6", "5 -6", "5- 6", "5\u20136", "5..6", "5~6", "5_0", "0x5", "5.0", "5e0", "a", "5a", "O5", "O5-O6", "\u0665", "\x00", "5\x00", "5\xff",
		"18446744073709551621", "4294967301", "1-18446744073709551618", "9223372036854775807", "1-9223372036854775807", "-9223372036854775808", "1--9223372036854775808",
		"9223372036854775808", "9223372036854775806-9223372036854775807", "1-999, 1-999", "1-998, 999", "1-999, 1000", "999, 1", "-9223372036854775808-9223372036854775807",
	} {
		checkNoRuns(t, s)
	}
	for _, s := range []string{"1-999, ", "0", "1", ", ", ",", "-", " ", "999-", "5, ", "5, 6, ", "\x00"} {
		long := strings.Repeat(s, 200000)
		for _, text := range []string{long, long + "1", "5" + long, "5, " + long, "5-" + long} {
			checkNoRuns(t, text)
		}
	}
}

// texts adds to a table the texts of up to n of the given bytes that begin with
// one, and go on with groups from a number on, with their lists.
func texts(table map[string][]int, bytes string, n int, begin string, from int, l []int) {
	table[begin] = l
	if begin != "" {
		begin += ", "
	}
	for first := from; first <= 999; first++ {
		one := begin + strconv.Itoa(first)
		if len(one) > n || strings.Trim(one, bytes) != "" {
			continue
		}
		texts(table, bytes, n, one, first+2, append(slices.Clip(l), first))
		for last := first + 1; last <= 999; last++ {
			more := one + "-" + strconv.Itoa(last)
			if len(more) <= n && strings.Trim(more, bytes) == "" {
				texts(table, bytes, n, more, last+2, append(slices.Clip(l), between(first, last)...))
			}
		}
	}
}

// P5.1, P5.2: of all short texts, Expand reads those of runs and no other.
func TestExpandShort(t *testing.T) {
	const bytes = "0123, -"
	table := map[string][]int{}
	texts(table, bytes, 6, "", 1, nil)
	short(bytes, 6, func(s string) {
		l, known := table[s]
		got, e := label.Expand(s)
		if known && (e != api.OK || !slices.Equal(got, l)) || !known && (e != api.ErrForm || len(got) != 0) {
			t.Fatalf("P5.1: Expand(%q): %v %d", s, got, e)
		}
	})
	if len(table["1-3"]) != 3 || len(table["1-333"]) != 333 || len(table["1, 3"]) != 2 || table["1, 2"] != nil {
		t.Errorf("the table has %d texts", len(table))
	}
}

// P5.1: Runs changes neither its argument nor the capacity behind it, and each
// list that Expand returns is memory of its own.
func TestRunsMemory(t *testing.T) {
	whole := []int{1, 2, 3, 9, 77, 77}
	before := slices.Clone(whole)
	if text, e := label.Runs(whole[:4]); e != api.OK || text != "1-3, 9" || !slices.Equal(whole, before) {
		t.Errorf("P5.1: Runs: %q %d, and the argument became %v", text, e, whole)
	}
	one, _ := label.Expand("1-3, 9")
	one = one[:cap(one)]
	for i := range one {
		one[i] = 500
	}
	if two, e := label.Expand("1-3, 9"); e != api.OK || !slices.Equal(two, before[:4]) {
		t.Errorf("P5.1: Expand: %v %d", two, e)
	}
}
