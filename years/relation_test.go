package years_test

import (
	"testing"

	"coinage/api"
	"coinage/years"
)

// holds reports whether the relation with a number holds between valid Years,
// as the table of the chapter has it.
func holds(number int, a, b api.Years) bool {
	switch number {
	case 1:
		return a.To+1 < b.From
	case 2:
		return a.To+1 == b.From
	case 3:
		return a.From < b.From && b.From <= a.To && a.To < b.To
	case 4:
		return a.From == b.From && a.To < b.To
	case 5:
		return a.From > b.From && a.To < b.To
	case 6:
		return a.From > b.From && a.To == b.To
	case 7:
		return a.From == b.From && a.To == b.To
	}
	return holds(14-number, b, a)
}

// P4.2: exactly one relation holds, Relation names it, and the other way round
// it is the inverse.
func TestRelation(t *testing.T) {
	list := append(within(-3, 5), extremes...)
	seen := map[int]bool{}
	for _, a := range list {
		for _, b := range list {
			got, count := years.Relation(a, b), 0
			for number := 1; number <= 13; number++ {
				if holds(number, a, b) {
					count++
				}
			}
			if count != 1 || got < 1 || got > 13 || !holds(got, a, b) {
				t.Fatalf("P4.2: Relation(%v, %v) = %d, and %d relations hold", a, b, got, count)
			}
			if back := years.Relation(b, a); back != 14-got {
				t.Fatalf("P4.2: Relation(%v, %v) = %d, inversely %d", a, b, got, back)
			}
			seen[got] = true
		}
	}
	if len(seen) != 13 {
		t.Errorf("P4.2: only the relations %v were seen", seen)
	}
}

// P4.1: one case of each relation, by the definition.
func TestRelationCases(t *testing.T) {
	for _, c := range []struct {
		a, b api.Years
		want int
	}{
		{span(1, 3), span(5, 9), 1}, {span(1, 4), span(5, 9), 2}, {span(1, 5), span(5, 9), 3},
		{span(1, 5), span(4, 9), 3}, {span(5, 5), span(5, 9), 4}, {span(6, 8), span(5, 9), 5},
		{span(9, 9), span(5, 9), 6}, {span(5, 9), span(5, 9), 7}, {span(5, 9), span(9, 9), 8},
		{span(5, 9), span(6, 8), 9}, {span(5, 9), span(5, 5), 10}, {span(4, 9), span(1, 5), 11},
		{span(5, 9), span(1, 4), 12}, {span(5, 9), span(1, 3), 13}, {span(7, 7), span(7, 7), 7},
		{span(0, 0), span(1, 1), 2}, {span(1, 1), span(0, 0), 12}, {span(-1, -1), span(1, 1), 1},
	} {
		if got := years.Relation(c.a, c.b); got != c.want {
			t.Errorf("P4.1: Relation(%v, %v) = %d, want %d", c.a, c.b, got, c.want)
		}
	}
}
