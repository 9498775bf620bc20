package opinion

import (
	"slices"

	"coinage/api"
)

// Diff returns the changes that lead from a to b; ErrFull if they are too many.
func Diff(a, b []Entry) ([]Change, Errno) {
	if !Valid(a) || !Valid(b) {
		return nil, api.ErrArg
	}
	var changes []Change
	for _, key := range keysOf(a, b) {
		from, to := sideOf(a, key), sideOf(b, key)
		if from != to {
			changes = append(changes, changeOf(key, from, to))
		}
	}
	if len(changes) > api.MaxEntries {
		return nil, api.ErrFull
	}
	return changes, api.OK
}

// Apply returns a with all changes made; ErrConflict if a does not agree with an
// old side, ErrFull if the result would have too many entries.
func Apply(a []Entry, c []Change) ([]Entry, Errno) {
	if !Valid(a) || !ValidChanges(c) {
		return nil, api.ErrArg
	}
	var changed []Entry
	for _, x := range c {
		if sideOf(a, x.Key) != before(x) {
			return nil, api.ErrConflict
		}
		if x.Has {
			changed = append(changed, Entry{Key: x.Key, Value: x.New})
		}
	}
	for _, e := range a {
		if _, found := place(c, e.Key, keyOfChange); !found {
			changed = append(changed, e)
		}
	}
	if len(changed) > api.MaxEntries {
		return nil, api.ErrFull
	}
	sortByKey(changed, keyOfEntry)
	return changed, api.OK
}

// Invert returns the changes with their old and new sides exchanged.
func Invert(c []Change) ([]Change, Errno) {
	if !ValidChanges(c) {
		return nil, api.ErrArg
	}
	inverse := slices.Clone(c)
	for i, x := range c {
		inverse[i] = changeOf(x.Key, after(x), before(x))
	}
	return inverse, api.OK
}

// Compose returns the changes that do c and then d; ErrConflict if d does not
// begin where c ends, ErrFull if they are too many.
func Compose(c, d []Change) ([]Change, Errno) {
	if !ValidChanges(c) || !ValidChanges(d) {
		return nil, api.ErrArg
	}
	var both []Change
	for _, x := range c {
		i, found := place(d, x.Key, keyOfChange)
		switch {
		case !found:
			both = append(both, x)
		case after(x) != before(d[i]):
			return nil, api.ErrConflict
		case before(x) != after(d[i]):
			both = append(both, changeOf(x.Key, before(x), after(d[i])))
		}
	}
	for _, y := range d {
		if _, found := place(c, y.Key, keyOfChange); !found {
			both = append(both, y)
		}
	}
	if len(both) > api.MaxEntries {
		return nil, api.ErrFull
	}
	sortByKey(both, keyOfChange)
	return both, api.OK
}
