package world_test

import (
	"math"
	"slices"
	"testing"

	"cellarman/api"
	"cellarman/mesh"
	"cellarman/world"
)

// What the tests hold the program against. Meshes are made by package mesh,
// which answers for Save, Repair and Same; all else is worked out here by hand.

var (
	kinds   = []int{api.HSave, api.HLeave, api.HCome, api.HLose, api.HBend, api.HRepair, api.HForget}
	noKinds = []int{math.MinInt, -7, -1, 0, 8, 9, 100, math.MaxInt}
)

// outside of what has so many places.
func outside(many int) []int {
	return []int{math.MinInt, -many - 1, -2, -1, many, many + 1, 100, math.MaxInt}
}

// content of many numbers from a rule, another one for each first.
func content(many, first int) []int {
	l := make([]int, many)
	for k := range l {
		l[k] = (first + 5*k + k*k) % api.Prime
	}
	return l
}

// rule gives number after number that look as if they had no order, the same
// ones in each run.
func rule() func(below int) int {
	state := uint32(88172645)
	return func(below int) int {
		state ^= state << 13
		state ^= state >> 17
		state ^= state << 5
		return int(state>>8) % below
	}
}

// copied: a deep copy of m.
func copied(m api.Mesh) api.Mesh {
	c := api.Mesh{B: api.Book{V: slices.Clone(m.B.V)}, P: slices.Clone(m.P)}
	for k, v := range c.B.V {
		c.B.V[k].Parents = slices.Clone(v.Parents)
	}
	for n, p := range c.P {
		c.P[n].K = slices.Clone(p.K)
		for i, k := range p.K {
			c.P[n].K[i].S.Values = slices.Clone(k.S.Values)
		}
	}
	return c
}

// changed: a deep copy of m, to which this was done.
func changed(m api.Mesh, how func(c *api.Mesh)) api.Mesh {
	c := copied(m)
	how(&c)
	return c
}

// nothing: are there no versions and no peers?
func nothing(m api.Mesh) bool { return len(m.B.V) == 0 && len(m.P) == 0 }

// empty: a mesh of so many peers with this room each.
func empty(t *testing.T, many, room int) api.Mesh {
	t.Helper()
	m, e := mesh.New(slices.Repeat([]int{room}, many))
	if e != api.OK {
		t.Fatalf("New of %d with room %d: error %d", many, room, e)
	}
	return m
}

// saved: m with a version more.
func saved(t *testing.T, m api.Mesh, data, parents []int, need, of int) api.Mesh {
	t.Helper()
	made, e := mesh.Save(m, data, parents, need, of)
	if e != api.OK {
		t.Fatalf("Save(%v, %v, %v, %d, %d): error %d", m, data, parents, need, of, e)
	}
	return made
}

// family: eight peers, with room for more, and seven versions: of 0 come 1, 2
// and 5, of both 1 and 2 comes 3, of 3 comes 4; 6 comes of none. 4, 5 and 6 are
// no parents.
func family(t *testing.T) api.Mesh {
	t.Helper()
	m := empty(t, api.MaxPeers, 12)
	for v, parents := range [][]int{nil, {0}, {0}, {1, 2}, {3}, {0}, {}} {
		m = saved(t, m, content(3+2*v, v), parents, 1+v%4, 4+v%5)
	}
	return m
}

// stay: m where those peers are there whose bit is set in choice.
func stay(m api.Mesh, choice int) api.Mesh {
	return changed(m, func(c *api.Mesh) {
		for n := range c.P {
			c.P[n].There = choice>>n&1 > 0
		}
	})
}

// without: what of these is of other versions.
func without(l []api.Kept, version int) []api.Kept {
	var rest []api.Kept
	for _, k := range l {
		if k.Version != version {
			rest = append(rest, k)
		}
	}
	return rest
}

// muddle: a mesh of some peers, some of which have no room left, are away, keep
// less than they got or something that is bent.
func muddle(some func(below int) int) api.Mesh {
	var m api.Mesh
	for range some(api.MaxPeers + 1) {
		m.P = append(m.P, api.Peer{There: true, Room: some(9)})
	}
	for v := range some(6) {
		var parents []int
		for k := range len(m.B.V) {
			if some(3) == 0 {
				parents = append(parents, k)
			}
		}
		need := 1 + some(3)
		if made, e := mesh.Save(m, content(1+some(9), v), parents, need, need+some(5)); e == api.OK {
			m = made
		}
	}
	for n := range m.P {
		p := &m.P[n]
		p.There = some(4) > 0
		if len(p.K) > 0 && some(2) == 0 {
			l := p.K[some(len(p.K))].S.Values
			l[some(len(l))] = some(api.Prime)
		}
		if len(p.K) > 0 && some(4) == 0 {
			p.K = without(p.K, p.K[some(len(p.K))].Version)
		}
	}
	return m
}

// anything that may happen, or may not.
func anything(some func(below int) int) api.Happening {
	x := api.Happening{Kind: 1 + some(7), N: some(9), M: some(5), Data: content(1+some(9), some(9)), Need: 1 + some(3)}
	x.Of = x.Need + some(4)
	if some(2) == 0 {
		x.Parents = []int{some(4)}
	}
	switch some(20) {
	case 0:
		x.Kind = noKinds[some(len(noKinds))]
	case 1:
		x.N = outside(8)[some(8)]
	case 2:
		x.M = outside(8)[some(8)]
	case 3:
		x.Data[0] = api.Prime
	case 4:
		x.Of = 9
	}
	return x
}

// after: what Do makes of a mesh without faults.
func after(m api.Mesh, x api.Happening) (api.Mesh, api.Errno) {
	switch x.Kind {
	case api.HSave:
		return mesh.Save(m, x.Data, x.Parents, x.Need, x.Of)
	case api.HRepair:
		return mesh.Repair(m, x.N)
	case api.HForget:
		return forgotten(m, x.N)
	case api.HLeave, api.HCome, api.HLose, api.HBend:
		if x.N < 0 || x.N >= len(m.P) {
			return api.Mesh{}, api.ErrWho
		}
		c := copied(m)
		if e := befall(&c.P[x.N], x); e != api.OK {
			return api.Mesh{}, e
		}
		return c, api.OK
	}
	return api.Mesh{}, api.ErrForm
}

// befall: what happens to one peer.
func befall(p *api.Peer, x api.Happening) api.Errno {
	switch {
	case x.Kind == api.HLeave && !p.There, x.Kind == api.HCome && p.There:
		return api.ErrLate
	case x.Kind == api.HLeave, x.Kind == api.HCome:
		p.There = x.Kind == api.HCome
	case x.Kind == api.HLose:
		p.K = nil
	case x.M < 0 || x.M >= len(p.K):
		return api.ErrWho
	case p.K[x.M].S.Values[0] == api.Prime-1:
		p.K[x.M].S.Values[0] = 0
	default:
		p.K[x.M].S.Values[0]++
	}
	return api.OK
}

// forgotten: what HForget of this version makes.
func forgotten(m api.Mesh, version int) (api.Mesh, api.Errno) {
	if version < 0 || version >= len(m.B.V) {
		return api.Mesh{}, api.ErrWho
	}
	for _, v := range m.B.V {
		if slices.Contains(v.Parents, version) {
			return api.Mesh{}, api.ErrLate
		}
	}
	return changed(m, func(c *api.Mesh) {
		for n, p := range c.P {
			if p.There {
				c.P[n].K = without(p.K, version)
			}
		}
	}), api.OK
}

// wantDo: this mesh is answered, and it is one.
func wantDo(t *testing.T, what string, m api.Mesh, x api.Happening, want api.Mesh) {
	t.Helper()
	made, e := world.Do(m, x)
	if e != api.OK || !mesh.Same(made, want) {
		t.Fatalf("%s: Do(%v, %v): %v, error %d, want %v", what, m, x, made, e, want)
	}
	if e := mesh.Check(made); e != api.OK {
		t.Fatalf("%s: Do(%v, %v): %v, Check's error %d", what, m, x, made, e)
	}
}

// wantNone: this error is answered, and nothing beside it.
func wantNone(t *testing.T, what string, m api.Mesh, x api.Happening, want api.Errno) {
	t.Helper()
	if made, e := world.Do(m, x); e != want || !nothing(made) {
		t.Fatalf("%s: Do(%v, %v): %v, error %d, want error %d", what, m, x, made, e, want)
	}
}

// compare: does Do answer what is worked out beside it?
func compare(t *testing.T, what string, m api.Mesh, x api.Happening) api.Errno {
	t.Helper()
	want, e := after(m, x)
	if e == api.OK {
		wantDo(t, what, m, x, want)
	} else {
		wantNone(t, what, m, x, e)
	}
	return e
}

// wantRun: this mesh and these errors are answered.
func wantRun(t *testing.T, what string, m api.Mesh, l []api.Happening, want api.Mesh, errors ...api.Errno) {
	t.Helper()
	made, said, e := world.Run(m, l)
	if e != api.OK || !mesh.Same(made, want) || !slices.Equal(said, errors) {
		t.Fatalf("%s: Run(%v, %v): %v, %v, error %d, want %v, %v", what, m, l, made, said, e, want, errors)
	}
}

// wantNoRun: this error is answered, and nothing beside it.
func wantNoRun(t *testing.T, what string, m api.Mesh, l []api.Happening, want api.Errno) {
	t.Helper()
	if made, said, e := world.Run(m, l); e != want || !nothing(made) || len(said) > 0 {
		t.Fatalf("%s: Run(%v, %d happenings): %v, %v, error %d, want error %d", what, m, len(l), made, said, e, want)
	}
}
