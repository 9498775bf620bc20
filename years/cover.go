package years

import (
	"slices"

	"coinage/api"
)

// maxCover is the most Years that Cover takes.
const maxCover = 64

// Cover returns the years that are in at least one of l, as few Years as
// possible, ascending; ErrFull if l is too long, ErrArg if one is not valid.
func Cover(l []Years) ([]Years, Errno) {
	if len(l) > maxCover {
		return nil, api.ErrFull
	}
	if slices.ContainsFunc(l, isInvalid) {
		return nil, api.ErrArg
	}
	sorted := slices.Clone(l)
	slices.SortFunc(sorted, byFrom)
	cover := make([]Years, 0, len(sorted))
	for _, y := range sorted {
		last := len(cover) - 1
		// Years that meet leave no year between them, so they are one, too.
		if last >= 0 && y.From <= cover[last].To+1 {
			cover[last].To = max(cover[last].To, y.To)
		} else {
			cover = append(cover, y)
		}
	}
	return cover, api.OK
}

// isInvalid reports whether y is not valid.
func isInvalid(y Years) bool { return !Valid(y) }

// byFrom compares two valid Years by their first years.
func byFrom(a, b Years) int { return a.From - b.From }
