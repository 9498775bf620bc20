package years

// The numbers of the relations, from before to equal; inverse less a number is
// the one of the inverse relation.
const (
	none = iota
	isBefore
	meets
	overlaps
	starts
	during
	finishes
	equal
	inverse = 2 * equal
)

// Relation returns the number of the relation between a and b; 0 if one is not
// valid.
func Relation(a, b Years) int {
	if !Valid(a) || !Valid(b) {
		return none
	}
	if r := forward(a, b); r != none {
		return r
	}
	return inverse - forward(b, a)
}

// forward returns the relation between a and b if it is none of the inverses.
func forward(a, b Years) int {
	switch {
	case a.To+1 < b.From:
		return isBefore
	case a.To+1 == b.From:
		return meets
	case a.From < b.From && b.From <= a.To && a.To < b.To:
		return overlaps
	case a.From == b.From && a.To < b.To:
		return starts
	case a.From > b.From && a.To < b.To:
		return during
	case a.From > b.From && a.To == b.To:
		return finishes
	case a == b:
		return equal
	}
	return none
}
