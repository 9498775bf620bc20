package opinion_test

import (
	"maps"
	"math"
	"math/rand"
	"slices"
	"testing"

	"coinage/api"
	"coinage/opinion"
)

// extremes are integers far from 0; any of them are keys and values.
var extremes = []int{
	math.MinInt, math.MinInt + 1, math.MinInt32 - 1, math.MinInt32, -9999, -65, -64, -1, 0,
	1, 64, 65, 9999, math.MaxInt32, math.MaxInt32 + 1, 1 << 32, 1<<32 + 1, math.MaxInt - 1, math.MaxInt,
}

// at is the entry with this key and value.
func at(key, value int) api.Entry { return api.Entry{Key: key, Value: value} }

// added is the change of an absent key to a value.
func added(key, value int) api.Change { return api.Change{Key: key, New: value, Has: true} }

// removed is the change of a value to an absent key.
func removed(key, value int) api.Change { return api.Change{Key: key, Old: value, Had: true} }

// changed is the change of a value to another one.
func changed(key, from, to int) api.Change {
	return api.Change{Key: key, Old: from, New: to, Had: true, Has: true}
}

// model is an attribution without an order.
type model map[int]int

// modelOf is the model of an attribution.
func modelOf(l []api.Entry) model {
	m := model{}
	for _, e := range l {
		m[e.Key] = e.Value
	}
	return m
}

// list is the attribution of a model.
func (m model) list() []api.Entry {
	var l []api.Entry
	for _, key := range slices.Sorted(maps.Keys(m)) {
		l = append(l, at(key, m[key]))
	}
	return l
}

// same reports whether two models have the same value, or none, for a key.
func same(m, n model, key int) bool {
	v, has := m[key]
	w, also := n[key]
	return has == also && (!has || v == w)
}

// put gives a key the value that it has in n, or none.
func (m model) put(key int, n model) {
	delete(m, key)
	if v, has := n[key]; has {
		m[key] = v
	}
}

// keysOf are the keys of some models.
func keysOf(all ...model) map[int]bool {
	keys := map[int]bool{}
	for _, m := range all {
		for key := range m {
			keys[key] = true
		}
	}
	return keys
}

// isAttribution reports whether a list is to be an attribution.
func isAttribution(l []api.Entry) bool {
	for i := range l {
		for j := range i {
			if l[j].Key >= l[i].Key {
				return false
			}
		}
	}
	return len(l) <= 64
}

// isChange reports whether a change is to be valid.
func isChange(c api.Change) bool {
	switch {
	case c.Had && c.Has:
		return c.Old != c.New
	case c.Had:
		return c.New == 0
	case c.Has:
		return c.Old == 0
	}
	return false
}

// isChanges reports whether a list of changes is to be valid.
func isChanges(l []api.Change) bool {
	for i := range l {
		if !isChange(l[i]) {
			return false
		}
		for j := range i {
			if l[j].Key >= l[i].Key {
				return false
			}
		}
	}
	return len(l) <= 64
}

// wantDiff is what Diff is to return.
func wantDiff(a, b []api.Entry) ([]api.Change, api.Errno) {
	if !isAttribution(a) || !isAttribution(b) {
		return nil, api.ErrArg
	}
	m, n := modelOf(a), modelOf(b)
	var changes []api.Change
	for _, key := range slices.Sorted(maps.Keys(keysOf(m, n))) {
		v, has := m[key]
		w, also := n[key]
		switch {
		case !has:
			changes = append(changes, added(key, w))
		case !also:
			changes = append(changes, removed(key, v))
		case v != w:
			changes = append(changes, changed(key, v, w))
		}
	}
	if len(changes) > 64 {
		return nil, api.ErrFull
	}
	return changes, api.OK
}

// wantApply is what Apply is to return.
func wantApply(a []api.Entry, c []api.Change) ([]api.Entry, api.Errno) {
	if !isAttribution(a) || !isChanges(c) {
		return nil, api.ErrArg
	}
	m, n := modelOf(a), modelOf(a)
	for _, x := range c {
		if v, has := m[x.Key]; has != x.Had || has && v != x.Old {
			return nil, api.ErrConflict
		}
		delete(n, x.Key)
		if x.Has {
			n[x.Key] = x.New
		}
	}
	if len(n) > 64 {
		return nil, api.ErrFull
	}
	return n.list(), api.OK
}

// wantInvert is what Invert is to return.
func wantInvert(c []api.Change) ([]api.Change, api.Errno) {
	if !isChanges(c) {
		return nil, api.ErrArg
	}
	var inverse []api.Change
	for _, x := range c {
		x.Old, x.New, x.Had, x.Has = x.New, x.Old, x.Has, x.Had
		inverse = append(inverse, x)
	}
	return inverse, api.OK
}

// wantCompose is what Compose is to return.
func wantCompose(c, d []api.Change) ([]api.Change, api.Errno) {
	if !isChanges(c) || !isChanges(d) {
		return nil, api.ErrArg
	}
	all := map[int]api.Change{}
	for _, x := range c {
		all[x.Key] = x
	}
	for _, y := range d {
		x, twice := all[y.Key]
		if !twice {
			all[y.Key] = y
			continue
		}
		if y.Had != x.Has || y.Old != x.New {
			return nil, api.ErrConflict
		}
		x.New, x.Has = y.New, y.Has
		all[y.Key] = x
		if x.Had == x.Has && x.Old == x.New {
			delete(all, y.Key)
		}
	}
	if len(all) > 64 {
		return nil, api.ErrFull
	}
	var both []api.Change
	for _, key := range slices.Sorted(maps.Keys(all)) {
		both = append(both, all[key])
	}
	return both, api.OK
}

// wantMerge is what Merge is to return.
func wantMerge(base, a, b []api.Entry) ([]api.Entry, []int, api.Errno) {
	if !isAttribution(base) || !isAttribution(a) || !isAttribution(b) {
		return nil, nil, api.ErrArg
	}
	l, m, n := modelOf(base), modelOf(a), modelOf(b)
	merged := maps.Clone(l)
	var conflicts []int
	for _, key := range slices.Sorted(maps.Keys(keysOf(l, m, n))) {
		switch {
		case same(m, n, key):
			merged.put(key, m)
		case same(m, l, key):
			merged.put(key, n)
		case same(n, l, key):
			merged.put(key, m)
		default:
			conflicts = append(conflicts, key)
		}
	}
	if len(merged) > 64 || len(conflicts) > 64 {
		return nil, nil, api.ErrFull
	}
	return merged.list(), conflicts, api.OK
}

// lent is a list for an argument: it has unused capacity, and no call may change
// either of them.
type lent[T comparable] struct{ list, spare []T }

// lend copies a list into memory with unused capacity.
func lend[T comparable](l []T) lent[T] {
	if l == nil {
		return lent[T]{}
	}
	list := append(make([]T, 0, len(l)+70), l...)
	return lent[T]{list, slices.Clone(list[:cap(list)])}
}

// intact reports whether neither the list nor its unused capacity was changed.
func (l lent[T]) intact() bool { return slices.Equal(l.list[:cap(l.list)], l.spare) }

// spoil changes all of a result, also its unused capacity, so that a result which
// shares memory with an argument changes it.
func spoil[T any](l []T, to T) {
	l = l[:cap(l)]
	for i := range l {
		l[i] = to
	}
}

// spoiledEntry and spoiledChange are in no list of the tests.
var (
	spoiledEntry  = at(-777, -777)
	spoiledChange = changed(-777, -777, -778)
)

// checkDiff compares Diff with its definition.
func checkDiff(t *testing.T, a, b []api.Entry) ([]api.Change, api.Errno) {
	t.Helper()
	x, y := lend(a), lend(b)
	got, e := opinion.Diff(x.list, y.list)
	want, f := wantDiff(a, b)
	if e != f || !slices.Equal(got, want) {
		t.Fatalf("P12.1: Diff(%v, %v) is %v, %d, want %v, %d", a, b, got, e, want, f)
	}
	if spoil(got, spoiledChange); !x.intact() || !y.intact() {
		t.Fatalf("P12.1: Diff(%v, %v) changes an argument", a, b)
	}
	return want, e
}

// checkApply compares Apply with its definition.
func checkApply(t *testing.T, a []api.Entry, c []api.Change) ([]api.Entry, api.Errno) {
	t.Helper()
	x, y := lend(a), lend(c)
	got, e := opinion.Apply(x.list, y.list)
	want, f := wantApply(a, c)
	if e != f || !slices.Equal(got, want) {
		t.Fatalf("P12.1: Apply(%v, %v) is %v, %d, want %v, %d", a, c, got, e, want, f)
	}
	if spoil(got, spoiledEntry); !x.intact() || !y.intact() {
		t.Fatalf("P12.1: Apply(%v, %v) changes an argument", a, c)
	}
	return want, e
}

// checkInvert compares Invert with its definition.
func checkInvert(t *testing.T, c []api.Change) ([]api.Change, api.Errno) {
	t.Helper()
	x := lend(c)
	got, e := opinion.Invert(x.list)
	want, f := wantInvert(c)
	if e != f || !slices.Equal(got, want) {
		t.Fatalf("P12.1: Invert(%v) is %v, %d, want %v, %d", c, got, e, want, f)
	}
	if spoil(got, spoiledChange); !x.intact() {
		t.Fatalf("P12.1: Invert(%v) changes its argument", c)
	}
	return want, e
}

// checkCompose compares Compose with its definition.
func checkCompose(t *testing.T, c, d []api.Change) ([]api.Change, api.Errno) {
	t.Helper()
	x, y := lend(c), lend(d)
	got, e := opinion.Compose(x.list, y.list)
	want, f := wantCompose(c, d)
	if e != f || !slices.Equal(got, want) {
		t.Fatalf("P12.1: Compose(%v, %v) is %v, %d, want %v, %d", c, d, got, e, want, f)
	}
	if spoil(got, spoiledChange); !x.intact() || !y.intact() {
		t.Fatalf("P12.1: Compose(%v, %v) changes an argument", c, d)
	}
	return want, e
}

// checkMerge compares Merge with its definition.
func checkMerge(t *testing.T, base, a, b []api.Entry) ([]api.Entry, []int, api.Errno) {
	t.Helper()
	x, y, z := lend(base), lend(a), lend(b)
	got, keys, e := opinion.Merge(x.list, y.list, z.list)
	want, conflicts, f := wantMerge(base, a, b)
	if e != f || !slices.Equal(got, want) || !slices.Equal(keys, conflicts) {
		t.Fatalf("P12.1: Merge(%v, %v, %v) is %v, %v, %d, want %v, %v, %d", base, a, b, got, keys, e, want, conflicts, f)
	}
	if spoil(got, spoiledEntry); !x.intact() || !y.intact() || !z.intact() {
		t.Fatalf("P12.1: Merge(%v, %v, %v) changes an argument", base, a, b)
	}
	return want, conflicts, e
}

// entries is the attribution with count keys from first on, all with one value.
func entries(first, count, value int) []api.Entry {
	var l []api.Entry
	for key := first; key < first+count; key++ {
		l = append(l, at(key, value))
	}
	return l
}

// changes is the list of count changes like c for the keys from first on.
func changes(first, count int, c api.Change) []api.Change {
	var l []api.Change
	for key := first; key < first+count; key++ {
		c.Key = key
		l = append(l, c)
	}
	return l
}

// randomKey is a small key, or an extreme one.
func randomKey(source *rand.Rand, keys int) int {
	if source.Intn(6) == 0 {
		return extremes[source.Intn(len(extremes))]
	}
	return source.Intn(keys) - keys/2
}

// randomValue is one of a few values, also 0, or an extreme one.
func randomValue(source *rand.Rand) int {
	if source.Intn(6) == 0 {
		return extremes[source.Intn(len(extremes))]
	}
	return source.Intn(3)
}

// amount is count, or any number up to it.
func amount(source *rand.Rand, count int) int {
	if source.Intn(2) == 0 {
		return count
	}
	return source.Intn(count + 1)
}

// randomEntries is an attribution of at most count entries.
func randomEntries(source *rand.Rand, keys, count int) []api.Entry {
	m := model{}
	for range amount(source, count) {
		m[randomKey(source, keys)] = randomValue(source)
	}
	return m.list()
}

// altered is an attribution with some other entries, and at most 64 of them.
func altered(source *rand.Rand, l []api.Entry, keys, count int) []api.Entry {
	m := modelOf(l)
	for range amount(source, count) {
		key := randomKey(source, keys)
		if len(l) > 0 && source.Intn(2) == 0 {
			key = l[source.Intn(len(l))].Key
		}
		delete(m, key)
		if len(m) < 64 && source.Intn(3) > 0 {
			m[key] = randomValue(source)
		}
	}
	return m.list()
}

// randomChanges is a list of at most count changes, many of which agree with l.
func randomChanges(source *rand.Rand, l []api.Entry, keys, count int) []api.Change {
	m, all := modelOf(l), map[int]api.Change{}
	for range amount(source, count) {
		c := api.Change{Key: randomKey(source, keys), Has: source.Intn(3) > 0}
		if len(l) > 0 && source.Intn(2) == 0 {
			c.Key = l[source.Intn(len(l))].Key
		}
		c.Old, c.Had = m[c.Key]
		if source.Intn(4*count) == 0 {
			c.Had, c.Old = !c.Had, 0
		}
		if c.Has {
			c.New = randomValue(source)
		}
		if isChange(c) {
			all[c.Key] = c
		}
	}
	var list []api.Change
	for _, key := range slices.Sorted(maps.Keys(all)) {
		list = append(list, all[key])
	}
	return list
}
