package tale_test

import (
	"fmt"
	"reflect"
	"slices"
	"testing"

	"cellarman/api"
	"cellarman/tale"
)

const mark = 77

// eachList in v, those in the spare room of others, too.
func eachList(v reflect.Value, ask func(l reflect.Value)) {
	switch v.Kind() {
	case reflect.Struct:
		for i := range v.NumField() {
			eachList(v.Field(i), ask)
		}
	case reflect.Slice:
		ask(v)
		full := v.Slice(0, v.Cap())
		for i := range full.Len() {
			eachList(full.Index(i), ask)
		}
	}
}

// whole: all lists in these, with the spare room behind each.
func whole(l ...any) string {
	var s []byte
	for _, x := range l {
		eachList(reflect.ValueOf(x), func(v reflect.Value) {
			s = fmt.Append(s, v.Len(), v.Slice(0, v.Cap()).Interface(), "\n")
		})
	}
	return string(s)
}

// span of memory.
type span struct{ from, to uintptr }

// spans of all lists in these, the spare room behind them, too.
func spans(l ...any) []span {
	var all []span
	for _, x := range l {
		eachList(reflect.ValueOf(x), func(v reflect.Value) {
			if v.Cap() > 0 {
				from := v.Pointer()
				all = append(all, span{from, from + uintptr(v.Cap())*v.Type().Elem().Size()})
			}
		})
	}
	return all
}

// behind: l with spare room behind it that holds these.
func behind[T any](l []T, spare ...T) []T { return append(slices.Clone(l), spare...)[:len(l)] }

// roomy: copies of these, with marked spare room behind each list.
func roomy(room []int, l []api.Happening) ([]int, []api.Happening) {
	l = behind(l, save([]int{mark}, 1, 1), to(api.HLose, mark))
	for i, x := range l {
		l[i].Data, l[i].Parents = behind(x.Data, mark, mark), behind(x.Parents, mark)
	}
	return behind(room, mark, mark), l
}

// wantNewLists: what is handed in stays as it was, and what is answered is new
// memory, the same once more. It answers how many lists are answered.
func wantNewLists(t *testing.T, what string, room []int, l []api.Happening) int {
	t.Helper()
	was := whole(room, l)
	got, e := tale.Saved(room, l)
	again, f := tale.Saved(room, l)
	if e != f || !alike(got, again) {
		t.Fatalf("%s: Saved(%v, %v): %v, error %d, and again %v, error %d", what, room, l, got, e, again, f)
	}
	given, made := spans(room, l), spans(got, again)
	for i, a := range made {
		shares := func(b span) bool { return a.from < b.to && b.from < a.to }
		if slices.ContainsFunc(given, shares) || slices.ContainsFunc(made[i+1:], shares) {
			t.Fatalf("%s: Saved(%v, %v): a list of %v shares memory", what, room, l, got)
		}
	}
	for _, data := range again {
		for i := range cap(data) {
			data[:cap(data)][i] = mark
		}
	}
	if whole(room, l) != was {
		t.Fatalf("%s: what was handed in is changed: %v, %v", what, room, l)
	}
	third, _ := tale.Saved(room, l)
	if !alike(got, third) {
		t.Fatalf("%s: Saved(%v, %v): %v, and behind that %v", what, room, l, got, third)
	}
	return len(got)
}

// TestSavedIsNewMemory: scripts that may be, and ones that may not.
func TestSavedIsNewMemory(t *testing.T) {
	some := rule()
	lists := 0
	for range 400 {
		room, l := roomy(anyRoom(some), script(some, some(40), false))
		lists += wantNewLists(t, "a muddle", room, l)
	}
	if lists < 400 {
		t.Errorf("%d lists were answered", lists)
	}
	for _, many := range []int{0, 1, api.MaxScript, api.MaxScript + 1} {
		room, l := roomy(like(api.MaxPeers, api.MaxRoom), slices.Repeat([]api.Happening{save(content(api.MaxData, 1), 2, 3)}, many))
		wantNewLists(t, "saves alone", room, l)
		wantNewLists(t, "New's error", append(room, 1), l)
		room[3] = -1
		wantNewLists(t, "New's error", room, l)
	}
	wantNewLists(t, "nothing", nil, nil)
	wantNewLists(t, "empty lists", make([]int, 0, 4), make([]api.Happening, 0, 4))
}

// TestSavedOfOneList: what is handed in may be one list, time and again, or
// pieces of it.
func TestSavedOfOneList(t *testing.T) {
	one := behind([]int{0, 1, 2, 3, 4, 5}, mark, mark)
	var l []api.Happening
	var want [][]int
	for n := range 5 {
		data := [][]int{one, one, one[1:3], one[:2], one[3:]}[n]
		l, want = append(l, save(data, 1, 2, one[:n]...)), append(want, slices.Clone(data))
		l[n].Parents = one[:n]
	}
	wantSaved(t, "of one list", one, l, want...)
	if wantNewLists(t, "of one list", one, l) != 5 {
		t.Errorf("not all of %v are saved", l)
	}
}

// wantMeshOnlyRead: what is handed in stays as it was.
func wantMeshOnlyRead(t *testing.T, what string, m api.Mesh) {
	t.Helper()
	was := whole(m)
	for version := -1; version <= len(m.B.V); version++ {
		got, e := tale.Spare(m, version)
		if again, f := tale.Spare(m, version); got != again || e != f {
			t.Fatalf("%s: Spare(%v, %d): %d, error %d, and again %d, error %d", what, m, version, got, e, again, f)
		}
	}
	if whole(m) != was {
		t.Fatalf("%s: what was handed in is changed: %v", what, m)
	}
}

// roomyMesh: m with marked spare room behind each list of it.
func roomyMesh(m api.Mesh) api.Mesh {
	m.B.V = behind(m.B.V, api.Version{Parents: []int{mark}})
	for k, v := range m.B.V {
		m.B.V[k].Parents = behind(v.Parents, mark)
	}
	m.P = behind(m.P, api.Peer{There: true, Room: mark})
	for n, p := range m.P {
		m.P[n].K = behind(p.K, api.Kept{Version: 1, S: api.Share{Values: []int{mark}}})
		for i, k := range p.K {
			m.P[n].K[i].S.Values = behind(k.S.Values, mark, mark)
		}
	}
	return m
}

// TestSpareOnlyReads: meshes that may be, and ones that may not; what lies in
// spare room doesn't count.
func TestSpareOnlyReads(t *testing.T) {
	some := rule()
	for range 200 {
		m := begun(t, anyRoom(some))
		for _, x := range script(some, some(40), false) {
			m, _, _ = step(m, x, nil)
		}
		m = roomyMesh(m)
		wantMeshOnlyRead(t, "a muddle", m)
		for version := range m.B.V {
			wantSpare(t, "a muddle", m, version, less(m, version))
		}
	}
	for _, c := range faults() {
		m := sound()
		c.how(&m)
		wantMeshOnlyRead(t, c.what, roomyMesh(m))
	}
	l := []api.Kept{kept(0, 1), kept(1, 2)}
	m := three(at(l...), at(l...), at(l[1:]...))
	wantMeshOnlyRead(t, "lists that are one", m)
	wantSpare(t, "lists that are one", m, 1, -1)
	wantMeshOnlyRead(t, "nothing at all", api.Mesh{})
}

// TestNothingIsLeftBehind: a call answers as it did ahead of all others, those
// with errors among them.
func TestNothingIsLeftBehind(t *testing.T) {
	var l []api.Happening
	var want [][]int
	for _, c := range ordinary() {
		l = append(l, c.x)
		if c.ok && c.x.Kind == api.HSave {
			want = append(want, c.x.Data)
		}
	}
	for _, c := range faults() {
		m := sound()
		c.how(&m)
		wantNoSpare(t, c.what, m, 1, c.e)
		wantSpare(t, "behind "+c.what, sound(), 1, 3)
		wantNotSaved(t, "behind "+c.what, []int{-1}, l, api.ErrRange)
		wantSaved(t, "behind New's error", like(4, 2), l, want...)
		wantNotSaved(t, "behind "+c.what, like(4, 2), make([]api.Happening, api.MaxScript+1), api.ErrMany)
		wantSaved(t, "behind too long a script", like(4, 2), l, want...)
	}
}
