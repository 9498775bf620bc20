package specimen

import (
	"strings"

	"coinage/api"
)

// What ends each line of an export, and the most bytes that Import reads.
const (
	lineFeed = "\n"
	maxBytes = 4096
)

// Export returns the texts of a corpus list by Id, each ended by a line feed.
func Export(l []Specimen) (string, Errno) {
	sorted, e := Sort(l)
	if e != api.OK {
		return "", e
	}
	var lines strings.Builder
	for _, s := range sorted {
		lines.WriteString(Text(s) + lineFeed)
	}
	return lines.String(), api.OK
}

// Import returns the specimens whose export s is, by Id; ErrFull if s is too
// long, ErrForm if there are none.
func Import(s string) ([]Specimen, Errno) {
	if len(s) > maxBytes {
		return nil, api.ErrFull
	}
	var list []Specimen
	for line := range strings.Lines(s) {
		x, e := Parse(strings.TrimSuffix(line, lineFeed))
		if e != api.OK {
			return nil, api.ErrForm
		}
		list = append(list, x)
	}
	// A list has one export only, so this refuses lines in another order, a last
	// line that is not ended, and what is no corpus list.
	if text, e := Export(list); e != api.OK || text != s {
		return nil, api.ErrForm
	}
	return list, api.OK
}
