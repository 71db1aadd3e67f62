package audit

import (
	"fmt"
	"reflect"
	"slices"
	"testing"

	"cellarman/api"
)

const mark = 77

// each list in v, those in the spare room of others, too.
func eachList(v reflect.Value, ask func(l reflect.Value)) {
	switch v.Kind() {
	case reflect.Struct:
		for i := range v.NumField() {
			eachList(v.Field(i), ask)
		}
	case reflect.Slice:
		ask(v)
		full := v.Slice(0, v.Cap())
		for i := range full.Len() {
			eachList(full.Index(i), ask)
		}
	}
}

// told: all lists of m, with the spare room behind each.
func told(m api.Mesh) string {
	var s []byte
	eachList(reflect.ValueOf(m), func(l reflect.Value) {
		s = fmt.Append(s, l.Len(), l.Slice(0, l.Cap()).Interface(), "\n")
	})
	return string(s)
}

// numbersOf m: where each number is that is in a list of them, or behind it.
func numbersOf(m api.Mesh) map[*int]int {
	all := map[*int]int{}
	eachList(reflect.ValueOf(m), func(l reflect.Value) {
		if l, ok := l.Interface().([]int); ok {
			for i := range cap(l) {
				all[&l[:cap(l)][i]]++
			}
		}
	})
	return all
}

// behind: l with spare room behind it that holds these.
func behind[T any](l []T, spare ...T) []T { return append(slices.Clone(l), spare...)[:len(l)] }

// roomy: a deep copy of m, with marked spare room behind each list of it.
func roomy(m api.Mesh) api.Mesh {
	m.B.V = behind(m.B.V, api.Version{Parents: []int{mark}}, api.Version{P: api.Plan{Need: mark}})
	for k, v := range m.B.V {
		m.B.V[k].Parents = behind(v.Parents, mark, mark)
	}
	m.P = behind(m.P, api.Peer{Room: mark, K: []api.Kept{{Version: mark}}}, api.Peer{There: true, Room: mark})
	for n, p := range m.P {
		m.P[n].K = behind(p.K, api.Kept{Version: mark, S: api.Share{Values: []int{mark}}}, api.Kept{Version: mark})
		for i, k := range p.K {
			m.P[n].K[i].S.Values = behind(k.S.Values, mark, mark)
		}
	}
	return m
}

// wantOnlyRead: all calls leave m as it was, and answer new memory.
func wantOnlyRead(t *testing.T, what string, m api.Mesh) {
	t.Helper()
	was, given := told(m), numbersOf(m)
	for version := -1; version <= len(m.B.V); version++ {
		Lacking(m, version)
		who, _ := Blamed(m, version)
		again, _ := Blamed(m, version)
		if !slices.Equal(who, again) {
			t.Errorf("%s: Blamed(%v, %d): %v, and again %v", what, m, version, who, again)
		}
		for i := range cap(who) {
			if given[&who[:cap(who)][i]] > 0 {
				t.Errorf("%s: Blamed(%v, %d): %v shares memory with what was handed in", what, m, version, who)
			}
			who[:cap(who)][i] = mark
		}
		if slices.Contains(again, mark) {
			t.Errorf("%s: Blamed(%v, %d): %v shares memory with an earlier answer", what, m, version, again)
		}
	}
	if told(m) != was {
		t.Errorf("%s: what was handed in is changed", what)
	}
}

// TestOnlyRead: meshes that may be, and ones that may not.
func TestOnlyRead(t *testing.T) {
	some := rule()
	for range 300 {
		wantOnlyRead(t, "a muddle", roomy(muddle(some)))
	}
	all := sound()
	for n := range 3 {
		bend(&all, n, 1, 9)
		wantOnlyRead(t, "some are bent", roomy(all))
	}
	for _, c := range faults() {
		m := sound()
		c.how(&m)
		wantOnlyRead(t, c.what, roomy(m))
	}
	wantOnlyRead(t, "nothing at all", api.Mesh{})
}

// TestSharedLists: lists that were handed in may be one list, or empty.
func TestSharedLists(t *testing.T) {
	m := sound()
	one := behind([]int{0, 1, 2}, mark)
	m.B.V[3].Parents, m.B.V[4].Parents = one, one
	for n := range m.P[1:] {
		m.P[n+1].K = m.P[0].K
	}
	for i := range m.P[0].K {
		if len(m.P[0].K[i].S.Values) == 3 {
			m.P[0].K[i].S.Values = one
		}
	}
	wantOnlyRead(t, "lists that are one", m)
	for v := range m.B.V {
		wantLacking(t, "one share of each", m, v, 7)
	}
	bare := api.Mesh{B: api.Book{V: make([]api.Version, 0, 4)}, P: make([]api.Peer, 1, 4)}
	wantOnlyRead(t, "empty lists", bare)
	wantNeither(t, "empty lists", bare, 0, api.ErrWho)
	bare = with(bare, api.Plan{Need: 1, Of: 1, Size: 1})
	bare.B.V[0].Parents, bare.P[0].K = make([]int, 0, 3), make([]api.Kept, 0, 3)
	wantOnlyRead(t, "empty lists within", bare)
	wantLacking(t, "empty lists within", bare, 0, 1)
	wantUnblamed(t, "empty lists within", bare, 0, api.ErrShort)
}

// TestNothingIsLeftBehind: a call answers as it did ahead of all others.
func TestNothingIsLeftBehind(t *testing.T) {
	m := sound()
	bend(&m, 3, 1, 4)
	lose(&m, 5, 1)
	for _, c := range faults() {
		n := sound()
		c.how(&n)
		wantFault(t, c.what, n, c.e)
		wantBlamed(t, "behind "+c.what, m, 1, 3)
		wantLacking(t, "behind "+c.what, m, 1, 1)
	}
}
