package tale_test

import (
	"slices"
	"testing"

	"cellarman/api"
	"cellarman/mesh"
	"cellarman/tale"
)

// wantRestored: each version of m of which enough is spare is restored as it
// was saved; of the others there aren't enough. It answers what is spare.
func wantRestored(t *testing.T, what string, m api.Mesh, saved [][]int) []int {
	t.Helper()
	if len(saved) != len(m.B.V) {
		t.Fatalf("%s: %v: saved were %v", what, m, saved)
	}
	var spares []int
	for version, want := range saved {
		spare, e := tale.Spare(m, version)
		if e != api.OK {
			t.Fatalf("%s: Spare(%v, %d): error %d", what, m, version, e)
		}
		spares = append(spares, spare)
		data, others, e := mesh.Restore(m, version)
		if spare < 0 {
			if e != api.ErrShort {
				t.Fatalf("%s: Spare(%v, %d) is %d, restored %v, error %d", what, m, version, spare, data, e)
			}
			continue
		}
		if e != api.OK || !slices.Equal(data, want) || len(others) > 0 {
			t.Fatalf("%s: Spare(%v, %d) is %d, restored %v, others %v, error %d, saved was %v", what, m, version, spare, data, others, e, want)
		}
	}
	return spares
}

// told: what is saved by a script, and the mesh behind each of its turns.
func told(t *testing.T, room []int, l []api.Happening) ([][]int, []api.Mesh) {
	t.Helper()
	saved, e := tale.Saved(room, l)
	if e != api.OK {
		t.Fatalf("Saved(%v, %v): error %d", room, l, e)
	}
	m := begun(t, room)
	meshes := []api.Mesh{m}
	for _, x := range l {
		m, _, _ = step(m, x, nil)
		meshes = append(meshes, m)
	}
	return saved, meshes
}

// TestRestoredWrittenOut: versions that leave, are lost, forgotten and
// repaired.
func TestRestoredWrittenOut(t *testing.T) {
	room := like(5, 3)
	var l []api.Happening
	for _, c := range []struct {
		x    api.Happening
		want []int
	}{
		{save([]int{1}, 1, 6), nil}, // it has an error: five are there
		{save([]int{5, 7, 9}, 2, 4), []int{2}},
		{save([]int{30, 0, 0, 0}, 3, 5, 0), []int{2, 2}},
		{to(api.HLeave, 0), []int{1, 1}},
		{save([]int{0}, 1, 1, 0, 1), []int{1, 1, 0}},
		{to(api.HLose, 1), []int{0, 0, 0}},
		{to(api.HRepair, 0), []int{2, 0, 0}}, // 1 gets share 0, 4 share 1
		{to(api.HCome, 0), []int{2, 1, 0}},   // with share 0, too
		{to(api.HLeave, 4), []int{1, 0, -1}},
		{to(api.HForget, 2), []int{1, 0, -1}}, // by all but 4
		{to(api.HForget, 0), []int{1, 0, -1}}, // it has an error: 0 is a parent
		{to(api.HCome, 4), []int{2, 1, 0}},
		{to(api.HForget, 2), []int{2, 1, -1}},
	} {
		l = append(l, c.x)
		saved, meshes := told(t, room, l)
		got := wantRestored(t, "written out", meshes[len(l)], saved)
		if !slices.Equal(got, c.want) {
			t.Errorf("behind %v: %v are spare, want %v", c.x, got, c.want)
		}
	}
}

// TestRestoredOfPlans: of each plan, with each choice of peers away or with
// nothing left, and repaired behind that.
func TestRestoredOfPlans(t *testing.T) {
	room := like(api.MaxPeers, 2)
	for need := 1; need <= api.MaxNeed; need++ {
		for of := need; of <= api.MaxShares; of++ {
			for choice := range 1 << api.MaxPeers {
				l := []api.Happening{save(content(2*need+of, choice), need, of)}
				for n := range api.MaxPeers {
					if choice>>n&1 > 0 {
						l = append(l, to([]int{api.HLose, api.HLeave}[(n+of)%2], n))
					}
				}
				saved, meshes := told(t, room, append(l, to(api.HRepair, 0)))
				spare := wantRestored(t, "some are away or have nothing left", meshes[len(l)], saved)[0]
				behind := wantRestored(t, "it is repaired", meshes[len(l)+1], saved)[0]
				if !mesh.Same(meshes[len(l)], meshes[len(l)+1]) && behind != of-need {
					t.Fatalf("%v, repaired: %d is spare, ahead of that %d", l, behind, spare)
				}
			}
		}
	}
}

// TestRestoredMuddles: behind each turn of scripts in which nobody bends
// anything.
func TestRestoredMuddles(t *testing.T) {
	some := rule()
	seen := map[int]int{}
	mended, forgotten := 0, 0
	for range 1500 {
		room, l := anyRoom(some), script(some, some(60), true)
		saved, meshes := told(t, room, l)
		for i, m := range meshes {
			spares := wantRestored(t, "a muddle", m, saved[:len(m.B.V)])
			for _, spare := range spares {
				seen[spare]++
			}
			if i == 0 || mesh.Same(m, meshes[i-1]) {
				continue
			}
			switch x := l[i-1]; x.Kind {
			case api.HRepair:
				mended++
				if p := m.B.V[x.N].P; spares[x.N] != p.Of-p.Need {
					t.Fatalf("%v, repaired: %d of %v is spare", m, spares[x.N], p)
				}
			case api.HForget:
				forgotten++
				if p := m.B.V[x.N].P; spares[x.N] != -p.Need {
					t.Fatalf("%v, forgotten: %d of %v is spare", m, spares[x.N], p)
				}
			}
		}
	}
	for spare := -3; spare <= 3; spare++ {
		if seen[spare] < 100 {
			t.Errorf("%d was spare but %d times", spare, seen[spare])
		}
	}
	if mended < 100 || forgotten < 100 {
		t.Errorf("%d were repaired, %d forgotten", mended, forgotten)
	}
}

// TestRestoredPartByPart: what is saved stays so, whatever happens behind it.
func TestRestoredPartByPart(t *testing.T) {
	some := rule()
	for range 60 {
		room, l := anyRoom(some), script(some, some(50), true)
		all, meshes := told(t, room, l)
		for cut := range len(l) + 1 {
			part, _ := told(t, room, l[:cut])
			if !alike(part, all[:len(part)]) {
				t.Fatalf("Saved(%v, %v): %v, and of the first %d %v", room, l, all, cut, part)
			}
			wantRestored(t, "a part", meshes[cut], part)
		}
	}
}
