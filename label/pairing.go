package label

import (
	"strings"

	"coinage/api"
)

// slash stands between the two texts of a pairing.
const slash = "/"

// Pairing returns the text of an obverse and a reverse; ErrArg if one of them
// is not valid or of the other side.
func Pairing(o, r Label) (string, Errno) {
	if !Valid(o) || !Valid(r) || o.Side != api.Obverse || r.Side != api.Reverse {
		return "", api.ErrArg
	}
	return Text(o) + slash + Text(r), api.OK
}

// ParsePairing returns both labels of the text of a pairing; ErrForm if s is
// none.
func ParsePairing(s string) (Label, Label, Errno) {
	first, second, _ := strings.Cut(s, slash)
	o, e1 := Parse(first)
	r, e2 := Parse(second)
	if e1 != api.OK || e2 != api.OK || o.Side != api.Obverse || r.Side != api.Reverse {
		return Label{}, Label{}, api.ErrForm
	}
	return o, r, api.OK
}
