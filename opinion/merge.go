package opinion

import (
	"coinage/api"
)

// Merge returns base with what a or b changed, and the keys that both changed in
// different ways, which stay as in base; ErrFull if there are too many entries or
// too many of these keys.
func Merge(base, a, b []Entry) ([]Entry, []int, Errno) {
	if !Valid(base) || !Valid(a) || !Valid(b) {
		return nil, nil, api.ErrArg
	}
	var merged []Entry
	var conflicts []int
	for _, key := range keysOf(base, a, b) {
		both, agreed := mergeSides(sideOf(base, key), sideOf(a, key), sideOf(b, key))
		if both.has {
			merged = append(merged, Entry{Key: key, Value: both.value})
		}
		if !agreed {
			conflicts = append(conflicts, key)
		}
	}
	if len(merged) > api.MaxEntries || len(conflicts) > api.MaxEntries {
		return nil, nil, api.ErrFull
	}
	return merged, conflicts, api.OK
}

// mergeSides returns what two attributions say of one key together, and false if
// both changed it in different ways.
func mergeSides(base, a, b side) (side, bool) {
	switch {
	case a == b, b == base:
		return a, true
	case a == base:
		return b, true
	}
	return base, false
}
