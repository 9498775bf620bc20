package label_test

import (
	"slices"
	"strings"
	"testing"

	"coinage/api"
	"coinage/label"
)

// P5.1, P5.2: pairings of obverses and reverses, and what is read from them.
func TestPairing(t *testing.T) {
	all := valid()
	for i := range 9990 {
		for _, step := range []int{1, 7, 991, 4999, 7777} {
			o, r := all[i], all[9990+i*step%9990]
			text, e := label.Pairing(o, r)
			if e != api.OK || text != textOf(o)+"/"+textOf(r) {
				t.Fatalf("P5.1: Pairing(%v, %v): %q %d", o, r, text, e)
			}
			if a, b, e := label.ParsePairing(text); e != api.OK || a != o || b != r {
				t.Fatalf("P5.2: ParsePairing(%q): %v %v %d", text, a, b, e)
			}
		}
	}
	if text, e := label.Pairing(of(0, 12, 1), of(1, 7, 0)); e != api.OK || text != "O12a/R7" {
		t.Errorf("P5.1: Pairing: %q %d", text, e)
	}
	if o, r, e := label.ParsePairing("O3b/R12a"); e != api.OK || o != of(0, 3, 2) || r != of(1, 12, 1) {
		t.Errorf("P5.1: ParsePairing: %v %v %d", o, r, e)
	}
}

// P5.1: Pairing refuses labels that are not valid, and those of the other side.
func TestPairingArg(t *testing.T) {
	obverse, reverse := of(0, 12, 1), of(1, 7, 0)
	pairs := [][2]api.Label{{reverse, obverse}, {obverse, obverse}, {reverse, reverse}, {obverse, of(0, 7, 0)}, {of(1, 12, 1), reverse}}
	for _, bad := range invalid {
		pairs = append(pairs, [2]api.Label{bad, reverse}, [2]api.Label{obverse, bad}, [2]api.Label{bad, bad}, [2]api.Label{reverse, bad}, [2]api.Label{bad, obverse})
	}
	for _, p := range pairs {
		if text, e := label.Pairing(p[0], p[1]); e != api.ErrArg || text != "" {
			t.Errorf("P5.1: Pairing(%v, %v): %q %d", p[0], p[1], text, e)
		}
	}
}

// checkNoPairing asks ParsePairing to refuse a text.
func checkNoPairing(t *testing.T, s string) {
	t.Helper()
	if o, r, e := label.ParsePairing(s); e != api.ErrForm || o != (api.Label{}) || r != (api.Label{}) {
		t.Errorf("P5.1: ParsePairing(%.40q): %v %v %d", s, o, r, e)
	}
}

// P5.1: texts that are no pairings.
func TestParsePairingForm(t *testing.T) {
	for _, s := range []string{
		"", "/", "//", "O12", "R7", "O12/", "/R7", "R7/O12", "O12/O7", "R12/R7", "O12R7", "O12//R7", "/O12/R7", "O12/R7/", "O12/R7/O12", "O12/R7/R7",
		" O12/R7", "O12/R7 ", "O12 /R7", "O12/ R7", "O12 / R7", "O12\\R7", "O12-R7", "O12|R7", "O12,R7", "O12\u2044R7", "O12/R7\n", "O12\x00/R7",
		"12/7", "O12/7", "12/R7", "12a/7c", "O1/2/R7",
	} {
		checkNoPairing(t, s)
	}
	for _, s := range malformed {
		checkNoPairing(t, s+"/R7")
		checkNoPairing(t, "O12/"+s)
		checkNoPairing(t, s+"/"+s)
	}
	for _, s := range []string{"/", "O1/", "/R1", "O1/R1", "0", "O"} {
		checkNoPairing(t, strings.Repeat(s, 50000))
		checkNoPairing(t, "O12/R7"+strings.Repeat(s, 50000))
	}
}

// few lists the labels of a side with numbers below 20.
func few(side int) []api.Label {
	return slices.DeleteFunc(valid(), func(l api.Label) bool { return l.Side != side || l.Number >= 20 })
}

// P5.1, P5.2: of all short texts, ParsePairing reads those of pairings and no
// other.
func TestParsePairingShort(t *testing.T) {
	// No text of up to 6 bytes has a number of more than two digits.
	table := map[string][2]api.Label{}
	for _, o := range few(0) {
		for _, r := range few(1) {
			table[textOf(o)+"/"+textOf(r)] = [2]api.Label{o, r}
		}
	}
	short("OR01ab/ ", 6, func(s string) {
		want, known := table[s]
		o, r, e := label.ParsePairing(s)
		if known && (e != api.OK || o != want[0] || r != want[1]) || !known && (e != api.ErrForm || o != (api.Label{}) || r != (api.Label{})) {
			t.Fatalf("P5.1: ParsePairing(%q): %v %v %d", s, o, r, e)
		}
	})
}
