package specimen_test

import (
	"fmt"
	"math/rand"
	"regexp"
	"slices"
	"strconv"
	"strings"
	"testing"

	"coinage/api"
)

// of makes a specimen: its Id, its dies, their states, its axis and its weight.
func of(id, obv, rev, obvState, revState, axis, weight int) api.Specimen {
	return api.Specimen{Id: id, Obv: obv, Rev: rev, ObvState: obvState, RevState: revState, Axis: axis, Weight: weight}
}

// example is the specimen of the chapter.
var example = of(17, 3, 12, 2, 1, 6, 16820)

// limits are the least and the greatest value of each field of a specimen.
var limits = [7][2]int{{1, 9999}, {1, 999}, {1, 999}, {1, 9}, {1, 9}, {0, 11}, {1, 200000}}

// fields are the fields of a specimen in the order of the limits.
func fields(s *api.Specimen) [7]*int {
	return [7]*int{&s.Id, &s.Obv, &s.Rev, &s.ObvState, &s.RevState, &s.Axis, &s.Weight}
}

// isValid compares all fields with their limits.
func isValid(s api.Specimen) bool {
	for i, p := range fields(&s) {
		if *p < limits[i][0] || *p > limits[i][1] {
			return false
		}
	}
	return true
}

// hours are the hours of a clock by the axis.
var hours = [12]string{"12h", "1h", "2h", "3h", "4h", "5h", "6h", "7h", "8h", "9h", "10h", "11h"}

// textOf is the text of a valid specimen.
func textOf(s api.Specimen) string {
	return fmt.Sprintf("%d O%d%c/R%d%c %s %d.%03d", s.Id, s.Obv, 'a'+rune(s.ObvState-1), s.Rev, 'a'+rune(s.RevState-1), hours[s.Axis], s.Weight/1000, s.Weight%1000)
}

// form is the form of all texts, but for the limit of weights.
var form = regexp.MustCompile(`^([1-9][0-9]{0,3}) O([1-9][0-9]{0,2})([a-i])/R([1-9][0-9]{0,2})([a-i]) ([1-9]|1[0-2])h (0|[1-9][0-9]{0,2})\.([0-9]{3})$`)

// parsed is the specimen whose text s is, and whether there is one.
func parsed(s string) (api.Specimen, bool) {
	m := form.FindStringSubmatch(s)
	if m == nil {
		return api.Specimen{}, false
	}
	var n [9]int
	for _, i := range []int{1, 2, 4, 6, 7, 8} {
		n[i], _ = strconv.Atoi(m[i])
	}
	x := of(n[1], n[2], n[4], int(m[3][0]-'a')+1, int(m[5][0]-'a')+1, n[6]%12, n[7]*1000+n[8])
	if x.Weight < 1 || x.Weight > 200000 {
		return api.Specimen{}, false
	}
	return x, true
}

// checked is what Check is to return for a list.
func checked(l []api.Specimen) api.Errno {
	if len(l) > 64 {
		return api.ErrFull
	}
	for _, s := range l {
		if !isValid(s) {
			return api.ErrArg
		}
	}
	for i, s := range l {
		for _, other := range l[:i] {
			if s.Id == other.Id {
				return api.ErrDup
			}
		}
	}
	return api.OK
}

// sorted lists the specimens of lists by Id, those that are equal once. It puts
// each after all those with a smaller Id.
func sorted(lists ...[]api.Specimen) []api.Specimen {
	var list []api.Specimen
	for _, s := range slices.Concat(lists...) {
		place := 0
		for place < len(list) && list[place].Id < s.Id {
			place++
		}
		if !slices.Contains(list, s) {
			list = slices.Insert(list, place, s)
		}
	}
	return list
}

// united is what Union is to return.
func united(a, b []api.Specimen) ([]api.Specimen, api.Errno) {
	if e := checked(a); e != api.OK {
		return nil, e
	}
	if e := checked(b); e != api.OK {
		return nil, e
	}
	for _, s := range a {
		for _, other := range b {
			if s.Id == other.Id && s != other {
				return nil, api.ErrConflict
			}
		}
	}
	all := sorted(a, b)
	if len(all) > 64 {
		return nil, api.ErrFull
	}
	return all, api.OK
}

// exported is the Export of a corpus list.
func exported(l []api.Specimen) string {
	var lines strings.Builder
	for _, s := range sorted(l) {
		lines.WriteString(textOf(s) + "\n")
	}
	return lines.String()
}

// random is a valid specimen with an Id.
func random(source *rand.Rand, id int) api.Specimen {
	s := api.Specimen{}
	for i, p := range fields(&s) {
		least, greatest := limits[i][0], limits[i][1]
		switch source.Intn(6) {
		case 0:
			*p = least
		case 1:
			*p = greatest
		default:
			*p = least + source.Intn(greatest-least+1)
		}
	}
	s.Id = id
	return s
}

// randomList is a corpus list of n specimens, in any order.
func randomList(source *rand.Rand, n int) []api.Specimen {
	var list []api.Specimen
	for used := map[int]bool{}; len(list) < n; {
		if id := 1 + source.Intn(9999); !used[id] {
			list, used[id] = append(list, random(source, id)), true
		}
	}
	return list
}

// near calls yield with all texts that are made of s by adding or changing a
// byte, or by leaving out or repeating a part.
func near(s string, yield func(string)) {
	for i := range len(s) + 1 {
		for b := range 256 {
			between := string([]byte{byte(b)})
			yield(s[:i] + between + s[i:])
			if i < len(s) {
				yield(s[:i] + between + s[i+1:])
			}
		}
		for k := i + 1; k <= len(s); k++ {
			yield(s[:i] + s[k:])
			yield(s[:k] + s[i:])
		}
	}
}

// fill overwrites a list and the unused capacity after it.
func fill(l []api.Specimen) {
	l = l[:cap(l)]
	for i := range l {
		l[i] = of(-1, -2, -3, -4, -5, -6, -7)
	}
}

// unchanged calls a function with a list that has capacity after it, and asks
// that it changes neither.
func unchanged(t *testing.T, promise string, l []api.Specimen, call func([]api.Specimen)) {
	t.Helper()
	whole := append(slices.Clone(l), make([]api.Specimen, 70)...)
	fill(whole[len(l):])
	before := slices.Clone(whole)
	call(whole[:len(l)])
	if !slices.Equal(whole, before) {
		t.Errorf("%s: an argument changed from %v to %v", promise, before, whole)
	}
}
