package mesh

import (
	"fmt"
	"reflect"
	"slices"
	"testing"

	"cellarman/api"
)

const mark = 77

// each list in v, those in the spare room of others, too.
func eachList(v reflect.Value, ask func(l reflect.Value)) {
	switch v.Kind() {
	case reflect.Struct:
		for i := range v.NumField() {
			eachList(v.Field(i), ask)
		}
	case reflect.Slice:
		ask(v)
		full := v.Slice(0, v.Cap())
		for i := range full.Len() {
			eachList(full.Index(i), ask)
		}
	}
}

// told: all lists in these, with the spare room behind each.
func told(l ...any) string {
	var s []byte
	for _, x := range l {
		eachList(reflect.ValueOf(x), func(v reflect.Value) {
			s = fmt.Append(s, v.Len(), v.Slice(0, v.Cap()).Interface(), "\n")
		})
	}
	return string(s)
}

// span of memory.
type span struct{ from, to uintptr }

// spans of all lists in these, the spare room behind them, too.
func spans(l ...any) []span {
	var all []span
	for _, x := range l {
		eachList(reflect.ValueOf(x), func(v reflect.Value) {
			if v.Cap() > 0 {
				from := v.Pointer()
				all = append(all, span{from, from + uintptr(v.Cap())*v.Type().Elem().Size()})
			}
		})
	}
	return all
}

func overlap(a, b span) bool { return a.from < b.to && b.from < a.to }

// wantNew: no two lists of what is answered share memory, nor one of them with
// what was handed in.
func wantNew(t *testing.T, what string, in, out []any) {
	t.Helper()
	given, made := spans(in...), spans(out...)
	for i, a := range made {
		if slices.ContainsFunc(given, func(b span) bool { return overlap(a, b) }) {
			t.Errorf("%s: what is answered shares memory with what was handed in: %v", what, out)
		}
		if slices.ContainsFunc(made[i+1:], func(b span) bool { return overlap(a, b) }) {
			t.Errorf("%s: two lists of what is answered share memory: %v", what, out)
		}
	}
}

// behind: l with spare room behind it that holds these.
func behind[T any](l []T, spare ...T) []T { return append(slices.Clone(l), spare...)[:len(l)] }

// roomy: a deep copy of m, with marked spare room behind each list of it.
func roomy(m api.Mesh) api.Mesh {
	m.B.V = behind(m.B.V, api.Version{Parents: []int{mark}}, api.Version{P: api.Plan{Need: mark}})
	for k, v := range m.B.V {
		m.B.V[k].Parents = behind(v.Parents, mark, mark)
	}
	m.P = behind(m.P, api.Peer{Room: mark, K: []api.Kept{{Version: mark}}}, api.Peer{Room: mark})
	for n, p := range m.P {
		m.P[n].K = behind(p.K, api.Kept{Version: mark, S: api.Share{Values: []int{mark}}}, api.Kept{Version: mark})
		for i, k := range p.K {
			m.P[n].K[i].S.Values = behind(k.S.Values, mark, mark)
		}
	}
	return m
}

// wantOnlyRead: all calls, on these, leave what is handed in as it was, and
// answer new memory.
func wantOnlyRead(t *testing.T, what string, m api.Mesh, data, parents []int, need, of int) {
	t.Helper()
	was := told(m, data, parents)
	in := []any{m, data, parents}
	Check(m)
	Same(m, m)
	made, _ := New(data)
	wantNew(t, what+", New", in, []any{made})
	made, _ = New(parents)
	wantNew(t, what+", New", in, []any{made})
	made, _ = Save(m, data, parents, need, of)
	wantNew(t, what+", Save", in, []any{made})
	again, _ := Save(m, data, parents, need, of)
	wantNew(t, what+", Save again", in, []any{made, again})
	for version := -1; version <= len(m.B.V); version++ {
		found, others, _ := Restore(m, version)
		wantNew(t, what+", Restore", in, []any{found, others})
		made, _ = Repair(m, version)
		wantNew(t, what+", Repair", in, []any{made})
		again, _ = Repair(m, version)
		wantNew(t, what+", Repair again", in, []any{made, again, found, others})
	}
	if told(m, data, parents) != was {
		t.Errorf("%s: what was handed in is changed", what)
	}
}

// TestOnlyRead: meshes that may be, and ones that may not.
func TestOnlyRead(t *testing.T) {
	some := rule()
	data, parents := behind(content(5, 3), mark, mark), behind([]int{0}, mark, mark)
	for range 300 {
		m := roomy(muddle(t, some))
		wantOnlyRead(t, "a muddle", m, data, parents, 1, 1+some(api.MaxShares))
		wantOnlyRead(t, "a muddle", m, data, nil, 2, 9)
	}
	for v := range 13 {
		m := empty(20, 20, 20, 20, 20, 20, 20, 20)
		for range v {
			m = mustSave(t, m, content(24, v), nil, 4, 8)
		}
		wantOnlyRead(t, "versions", roomy(m), data, nil, 4, 8)
		leave(&m, 2, 3)
		wantOnlyRead(t, "versions, some are away", roomy(m), data, parents, 4, 6)
	}
	for _, c := range faults() {
		m := sound(t)
		c.how(&m)
		wantOnlyRead(t, c.what, roomy(m), data, parents, 1, 2)
	}
	wantOnlyRead(t, "nothing at all", api.Mesh{}, data, parents, 1, 1)
}

// TestSharedLists: lists that were handed in may be one list.
func TestSharedLists(t *testing.T) {
	m := sound(t)
	one := behind([]int{0, 1, 2}, mark)
	m.B.V[3].Parents, m.B.V[4].Parents = one, one
	for n := range m.P[1:] {
		m.P[n+1].K = m.P[0].K
	}
	for i := range m.P[0].K {
		if len(m.P[0].K[i].S.Values) == 3 {
			m.P[0].K[i].S.Values = one
		}
	}
	if e := Check(m); e != api.OK {
		t.Fatalf("Check(%v): error %d", m, e)
	}
	wantOnlyRead(t, "lists that are one", m, one, one, 2, 8)
	bare := empty(2, 2)
	bare.B.V = make([]api.Version, 0, 4)
	wantOnlyRead(t, "empty lists", bare, one[:1], one[:0], 1, 2)
	wantOnlyRead(t, "empty lists with nothing there", api.Mesh{B: bare.B}, one[:1], one[:0], 1, 2)
}

// TestNothingIsLeftBehind: a call answers as it did ahead of all others.
func TestNothingIsLeftBehind(t *testing.T) {
	m, all := family(t)
	leave(&m, 1)
	give(&m, 5, 1, all[3])
	data, others, e := Restore(m, 1)
	made, f := Repair(m, 1)
	further, g := Save(m, []int{3, 4}, []int{0, 1}, 2, 3)
	if e != api.OK || f != api.OK || g != api.OK {
		t.Fatalf("errors %d, %d, %d", e, f, g)
	}
	first := told(data, others, made, further)
	for _, c := range faults() {
		n := sound(t)
		c.how(&n)
		wantFault(t, c.what, n, c.e)
		New([]int{1, 2, 30})
		data, others, _ = Restore(m, 1)
		made, _ = Repair(m, 1)
		further, _ = Save(m, []int{3, 4}, []int{0, 1}, 2, 3)
		if told(data, others, made, further) != first {
			t.Errorf("behind %s: it answers something else", c.what)
		}
	}
}
