package world_test

import (
	"fmt"
	"reflect"
	"slices"
	"testing"

	"cellarman/api"
	"cellarman/mesh"
	"cellarman/world"
)

const mark = 77

// eachList in v, those in the spare room of others, too.
func eachList(v reflect.Value, ask func(l reflect.Value)) {
	switch v.Kind() {
	case reflect.Struct:
		for i := range v.NumField() {
			eachList(v.Field(i), ask)
		}
	case reflect.Slice:
		ask(v)
		full := v.Slice(0, v.Cap())
		for i := range full.Len() {
			eachList(full.Index(i), ask)
		}
	}
}

// told: all lists in these, with the spare room behind each.
func told(l ...any) string {
	var s []byte
	for _, x := range l {
		eachList(reflect.ValueOf(x), func(v reflect.Value) {
			s = fmt.Append(s, v.Len(), v.Slice(0, v.Cap()).Interface(), "\n")
		})
	}
	return string(s)
}

// span of memory.
type span struct{ from, to uintptr }

// spans of all lists in these, the spare room behind them, too.
func spans(l ...any) []span {
	var all []span
	for _, x := range l {
		eachList(reflect.ValueOf(x), func(v reflect.Value) {
			if v.Cap() > 0 {
				from := v.Pointer()
				all = append(all, span{from, from + uintptr(v.Cap())*v.Type().Elem().Size()})
			}
		})
	}
	return all
}

// wantNew: no two lists of what is answered share memory, nor one of them with
// what was handed in.
func wantNew(t *testing.T, what string, in, out []any) {
	t.Helper()
	given, made := spans(in...), spans(out...)
	for i, a := range made {
		shares := func(b span) bool { return a.from < b.to && b.from < a.to }
		if slices.ContainsFunc(given, shares) {
			t.Fatalf("%s: what is answered shares memory with what was handed in: %v", what, out)
		}
		if slices.ContainsFunc(made[i+1:], shares) {
			t.Fatalf("%s: two lists of what is answered share memory: %v", what, out)
		}
	}
}

// behind: l with spare room behind it that holds these.
func behind[T any](l []T, spare ...T) []T { return append(slices.Clone(l), spare...)[:len(l)] }

// roomy: a deep copy of m, with marked spare room behind each list of it.
func roomy(m api.Mesh) api.Mesh {
	m.B.V = behind(m.B.V, api.Version{Parents: []int{mark}}, api.Version{P: api.Plan{Need: mark}})
	for k, v := range m.B.V {
		m.B.V[k].Parents = behind(v.Parents, mark, mark)
	}
	m.P = behind(m.P, api.Peer{Room: mark, K: []api.Kept{{Version: mark}}}, api.Peer{There: true, Room: mark})
	for n, p := range m.P {
		m.P[n].K = behind(p.K, api.Kept{Version: mark, S: api.Share{Values: []int{mark}}}, api.Kept{Version: mark})
		for i, k := range p.K {
			m.P[n].K[i].S.Values = behind(k.S.Values, mark, mark)
		}
	}
	return m
}

// wantOnlyRead: what is handed in stays as it was, and what is answered is new
// memory, the same once more.
func wantOnlyRead(t *testing.T, what string, m api.Mesh, l []api.Happening) {
	t.Helper()
	was, in := told(m, l), []any{m, l}
	for _, x := range l {
		made, e := world.Do(m, x)
		again, f := world.Do(m, x)
		if e != f || !mesh.Same(made, again) {
			t.Fatalf("%s: Do(%v, %v): %v, error %d, and again %v, error %d", what, m, x, made, e, again, f)
		}
		wantNew(t, what+", Do", in, []any{made, again})
	}
	made, said, e := world.Run(m, l)
	again, twice, f := world.Run(m, l)
	if e != f || !mesh.Same(made, again) || !slices.Equal(said, twice) {
		t.Fatalf("%s: Run(%v, %v): %v, %v, error %d, and again %v, %v, error %d", what, m, l, made, said, e, again, twice, f)
	}
	wantNew(t, what+", Run", in, []any{made, said, again, twice})
	if told(m, l) != was {
		t.Fatalf("%s: what was handed in is changed", what)
	}
}

// allKinds: one of each, at peer and version n, with spare room behind lists.
func allKinds(n int) []api.Happening {
	l := []api.Happening{{}}
	for _, kind := range kinds {
		x := api.Happening{Kind: kind, N: n, M: n % 3, Need: 1 + n%2, Of: 3}
		x.Data, x.Parents = behind(content(2+n%4, n), mark, mark), behind([][]int{nil, {0}, {0, 1}, {2, 0}}[n%4], mark)
		l = append(l, x)
	}
	return behind(l, api.Happening{Kind: api.HLose}, api.Happening{Data: []int{mark}})
}

// TestOnlyRead: meshes that may be, and ones that may not; each Kind alone, and
// all of them one after the other.
func TestOnlyRead(t *testing.T) {
	some := rule()
	for range 150 {
		m := roomy(muddle(some))
		for n := range 5 {
			wantOnlyRead(t, "a muddle", m, allKinds(n))
		}
	}
	for _, m := range meshesToSaveIn(t) {
		for n := range api.MaxPeers {
			wantOnlyRead(t, "a mesh", roomy(m), allKinds(n))
			for _, x := range allKinds(n) {
				wantOnlyRead(t, "one alone", roomy(m), []api.Happening{x})
			}
		}
		wantOnlyRead(t, "no script", roomy(m), nil)
		wantOnlyRead(t, "an empty script", roomy(m), make([]api.Happening, 0, 3))
		wantOnlyRead(t, "errors alone", roomy(m), make([]api.Happening, 4))
		wantOnlyRead(t, "too many", roomy(m), make([]api.Happening, api.MaxScript+1))
	}
	for _, c := range faults() {
		wantOnlyRead(t, c.what, roomy(changed(family(t), c.how)), allKinds(4))
	}
}

// TestSharedLists: lists that were handed in may be one list, or empty.
func TestSharedLists(t *testing.T) {
	m := family(t)
	one := behind([]int{0, 1, 2}, mark)
	m.B.V[3].Parents, m.B.V[4].Parents = one, one
	for n := range m.P[1:] {
		m.P[n+1].K = m.P[0].K
	}
	for i, k := range m.P[0].K {
		if len(k.S.Values) == 3 {
			m.P[0].K[i].S.Values = one
		}
	}
	l := []api.Happening{{Kind: api.HSave, Data: one, Parents: one, Need: 1, Of: 2}}
	for n := range m.P {
		l = append(l, api.Happening{Kind: api.HBend, N: n}, api.Happening{Kind: api.HForget, N: n}, api.Happening{Kind: api.HLeave, N: n})
	}
	if e := mesh.Check(m); e != api.OK {
		t.Fatalf("Check(%v): error %d", m, e)
	}
	wantOnlyRead(t, "lists that are one", m, l)
	for _, x := range l {
		compare(t, "lists that are one", m, x)
	}
	bare := api.Mesh{B: api.Book{V: make([]api.Version, 0, 4)}, P: make([]api.Peer, 2, 4)}
	bare.P[1] = api.Peer{There: true, Room: 3, K: make([]api.Kept, 0, 3)}
	wantOnlyRead(t, "empty lists", bare, allKinds(1))
	for _, x := range allKinds(1) {
		compare(t, "empty lists", bare, x)
	}
}

// TestNothingIsLeftBehind: a call answers as it did ahead of all others, those
// with errors among them.
func TestNothingIsLeftBehind(t *testing.T) {
	m, l, errors, want := script(t)
	for _, c := range faults() {
		wantFault(t, c.what, changed(family(t), c.how), c.e)
		wantRun(t, "behind "+c.what, m, l, want, errors...)
		for _, x := range l {
			compare(t, "behind "+c.what, want, x)
		}
	}
}
