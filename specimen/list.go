package specimen

import (
	"cmp"
	"slices"

	"coinage/api"
	"coinage/label"
)

// Check reports whether l is a corpus list: ErrFull if it is too long, ErrArg if
// a specimen is not valid, ErrDup if two have the same Id.
func Check(l []Specimen) Errno {
	switch {
	case len(l) > api.MaxSpecimens:
		return api.ErrFull
	case !allValid(l):
		return api.ErrArg
	case repeatsId(byId(l)):
		return api.ErrDup
	}
	return api.OK
}

// Sort returns the specimens of a corpus list by Id.
func Sort(l []Specimen) ([]Specimen, Errno) {
	if e := Check(l); e != api.OK {
		return nil, e
	}
	return byId(l), api.OK
}

// Find returns the first specimen of any list with the Id; false if there is
// none.
func Find(l []Specimen, id int) (Specimen, bool) {
	i := slices.IndexFunc(l, func(s Specimen) bool { return s.Id == id })
	if i < 0 {
		return Specimen{}, false
	}
	return l[i], true
}

// Union returns the specimens of two corpus lists, each once, by Id; ErrConflict
// if different ones have the same Id, ErrFull if there are too many.
func Union(a, b []Specimen) ([]Specimen, Errno) {
	if e := cmp.Or(Check(a), Check(b)); e != api.OK {
		return nil, e
	}
	// No list has an Id twice, so what still repeats one after equal neighbours
	// became one specimen differs between the lists.
	all := slices.Compact(byId(slices.Concat(a, b)))
	switch {
	case repeatsId(all):
		return nil, api.ErrConflict
	case len(all) > api.MaxSpecimens:
		return nil, api.ErrFull
	}
	return all, api.OK
}

// Of returns the Ids of the specimens of a corpus list that were struck with d,
// ascending; ErrArg if the die is not valid.
func Of(l []Specimen, d Die) ([]int, Errno) {
	sorted, e := Sort(l)
	if e != api.OK {
		return nil, e
	}
	if !label.Valid(api.Label{Side: d.Side, Number: d.Number}) {
		return nil, api.ErrArg
	}
	var ids []int
	for _, s := range sorted {
		if number(s, d.Side) == d.Number {
			ids = append(ids, s.Id)
		}
	}
	return ids, api.OK
}

// allValid reports whether all specimens of l are valid.
func allValid(l []Specimen) bool {
	return !slices.ContainsFunc(l, func(s Specimen) bool { return !Valid(s) })
}

// byId returns a copy of l by Id.
func byId(l []Specimen) []Specimen {
	sorted := slices.Clone(l)
	slices.SortFunc(sorted, func(a, b Specimen) int { return cmp.Compare(a.Id, b.Id) })
	return sorted
}

// repeatsId reports whether two specimens of a list by Id have the same one.
func repeatsId(sorted []Specimen) bool {
	for i := 1; i < len(sorted); i++ {
		if sorted[i].Id == sorted[i-1].Id {
			return true
		}
	}
	return false
}

// number returns the number of the die of s on a side.
func number(s Specimen, side int) int {
	if side == api.Obverse {
		return s.Obv
	}
	return s.Rev
}
