package roam

import (
	"fmt"
	"math"
	"slices"
	"strings"
	"testing"

	"domesday/api"
	"domesday/vfs"
)

// P12.2
func TestWalkOfNoNode(t *testing.T) {
	s := newSite(t)
	s.dir(0, "a")
	count := s.f.Count()
	for _, id := range []int{count, count + 1, api.MaxNodes, math.MaxInt, -1, -2, math.MinInt} {
		for _, most := range []int{-1, 0, 1} {
			for _, who := range everybody {
				s.isWalk(who, id, "a", most, true)
				s.isWalk(who, id, "", most, false)
			}
		}
	}
	if got := Walk(&vfs.FS{}, super, 0, "/", -1, true); len(got) > 0 {
		t.Errorf("Walk of no file system's root: %s", told(got))
	}
}

// P12.2: what is no directory is visited once; a link isn't followed.
func TestWalkOfWhatIsNoDirectory(t *testing.T) {
	s := newSite(t)
	a := s.dir(0, "a")
	s.file(a, "b")
	closed := s.file(a, "closed")
	s.mode(closed, 0)
	unreadable := s.file(a, "unreadable")
	s.unreadable(unreadable)
	bad := s.link(a, "bad", "b")
	s.unreadable(bad)
	for _, id := range []int{
		s.file(0, "f"), closed, unreadable, bad,
		s.link(0, "l", "a"), s.link(0, "top", "/"), s.link(0, "gone", "gone"), s.link(0, "self", "self"),
	} {
		for _, who := range everybody {
			for _, most := range []int{-1, 0, 1, 100} {
				for _, name := range []string{"f", "l/", "", "/", ".hidden", "x/y"} {
					s.isWalk(who, id, name, most, false, first(id, name))
					s.isWalk(who, id, name, most, true, first(id, name))
				}
			}
		}
	}
}

// P12.2
func TestWalkOfEmptyDirectories(t *testing.T) {
	s := newSite(t)
	s.isWalkOfAll(anybody, 0, "/", first(0, "/"), over(first(0, "/")))
	s.isWalkOfAll(anybody, 0, ".", first(0, "."), over(first(0, ".")))
	a := s.dir(0, "a")
	top := first(a, "x/a")
	s.isWalkOfAll(anybody, a, "x/a", top, over(top))
	s.isWalk(anybody, a, "x/a", 1, true, top, over(top))
	s.isWalk(anybody, a, "x/a", 0, true, top)
	in := last(a, 1, "/a", "a")
	s.isWalkOfAll(anybody, 0, "/", first(0, "/"), in, over(in), over(first(0, "/")))
	s.isWalk(anybody, 0, "/", 1, false, first(0, "/"), in, over(first(0, "/")))
}

// P12.2: the chapter's example.
func TestWalkOfTheExample(t *testing.T) {
	s := newSite(t)
	a := s.dir(0, "a")
	b := s.file(a, "b")
	for _, who := range everybody {
		s.isWalkOfAll(who, a, "a", first(a, "a"), last(b, 1, "a/b", "b"), over(first(a, "a")))
	}
}

// grove builds a tree of several depths: the names of the nodes at hand.
func grove(s site) map[string]int {
	ids := map[string]int{}
	ids["r"] = s.dir(0, "r")
	ids["z"] = s.dir(ids["r"], "z")
	ids["y"] = s.file(ids["z"], "y")
	ids["x"] = s.dir(ids["z"], "x")
	ids["w"] = s.file(ids["x"], "w")
	ids["m"] = s.link(ids["r"], "m", "z")
	ids["c"] = s.dir(ids["r"], "c")
	ids["e"] = s.file(ids["c"], "e")
	ids["d"] = s.dir(ids["c"], "d")
	ids["a"] = s.file(ids["r"], "a")
	return ids
}

// P12.2: directories that are, and aren't, the last, at each most.
func TestWalkByMost(t *testing.T) {
	s := newSite(t)
	ids := grove(s)
	r := first(ids["r"], "r")
	a, m := met(ids["a"], 1, "r/a", "a"), met(ids["m"], 1, "r/m", "m")
	c, z := met(ids["c"], 1, "r/c", "c"), last(ids["z"], 1, "r/z", "z")
	d, e := met(ids["d"], 2, "r/c/d", "d"), last(ids["e"], 2, "r/c/e", "e")
	x, y := met(ids["x"], 2, "r/z/x", "x"), last(ids["y"], 2, "r/z/y", "y")
	w := last(ids["w"], 3, "r/z/x/w", "w")
	whole := []Visit{r, a, c, d, over(d), e, over(c), m, z, x, w, over(x), y, over(z), over(r)}
	for _, who := range everybody {
		for _, all := range []bool{false, true} {
			s.isWalk(who, ids["r"], "r", 0, all, r)
			s.isWalk(who, ids["r"], "r", 1, all, r, a, c, m, z, over(r))
			s.isWalk(who, ids["r"], "r", 2, all, r, a, c, d, e, over(c), m, z, x, y, over(z), over(r))
			for _, most := range []int{3, 4, 99, 100, 101, math.MaxInt, -1, -2, -100, math.MinInt} {
				s.isWalk(who, ids["r"], "r", most, all, whole...)
			}
		}
	}
}

// P12.2: the depth is that below the beginning, wherever that is.
func TestWalkFromBelow(t *testing.T) {
	s := newSite(t)
	ids := grove(s)
	z, y := first(ids["z"], "here"), last(ids["y"], 1, "here/y", "y")
	x, w := met(ids["x"], 1, "here/x", "x"), last(ids["w"], 2, "here/x/w", "w")
	s.isWalk(anybody, ids["z"], "here", 0, false, z)
	s.isWalk(anybody, ids["z"], "here", 1, false, z, x, y, over(z))
	s.isWalkOfAll(anybody, ids["z"], "here", z, x, w, over(x), y, over(z))
	s.isWalkOfAll(anybody, ids["y"], "here", first(ids["y"], "here"))
}

// P12.2: an entry's name stands behind a / behind the directory's, whatever
// that is.
func TestWalkByNames(t *testing.T) {
	s := newSite(t)
	a := s.dir(0, "a")
	b := s.dir(a, "b")
	c := s.file(b, "c")
	for name, ahead := range map[string]string{
		"a": "a/", "": "/", "/": "/", "//": "//", "///": "///", "a/": "a/", "a//": "a//", "/x/a": "/x/a/", "/x/a/": "/x/a/",
		".": "./", "..": "../", "./": "./", "../x": "../x/", "\\": "\\/", "a\x00": "a\x00/", "\xff": "\xff/", " ": " /", "/ ": "/ /",
		"a/.": "a/./", "~": "~/",
		strings.Repeat("n", 5000): strings.Repeat("n", 5000) + "/",
	} {
		top, in, end := first(a, name), last(b, 1, ahead+"b", "b"), last(c, 2, ahead+"b/c", "c")
		s.isWalkOfAll(anybody, a, name, top, in, end, over(in), over(top))
		s.isWalk(anybody, a, name, 1, false, top, in, over(top))
		s.isWalk(anybody, a, name, 0, false, top)
	}
}

// P12.2: visits are in the order of the names' bytes, and the last one shown
// is told as such.
func TestWalkByTheNamesBytes(t *testing.T) {
	s := newSite(t)
	high := s.file(0, "\xff")
	sub := s.file(0, "b.c")
	lower := s.dir(0, "b")
	digit := s.file(0, "10")
	upper := s.dir(0, "B")
	two := s.file(0, "2")
	in := s.file(lower, "z")
	top := first(0, ".")
	b := met(lower, 1, "./b", "b")
	big := met(upper, 1, "./B", "B")
	s.isWalkOfAll(anybody, 0, ".",
		top, met(digit, 1, "./10", "10"), met(two, 1, "./2", "2"), big, over(big),
		b, last(in, 2, "./b/z", "z"), over(b),
		met(sub, 1, "./b.c", "b.c"), last(high, 1, "./\xff", "\xff"), over(top))
}

// P12.2: what is hidden isn't visited, nor what stands below it; the last one
// is the last of what is shown.
func TestWalkOfPoints(t *testing.T) {
	s := newSite(t)
	r := s.dir(0, "r")
	minus := s.dir(r, "-")
	hidden := s.dir(r, ".h")
	below := s.file(hidden, "f")
	in := s.file(minus, ".only")
	top := first(r, "r")
	m := last(minus, 1, "r/-", "-")
	s.isWalk(anybody, r, "r", -1, false, top, m, over(m), over(top))
	s.isWalk(anybody, r, "r", 1, false, top, m, over(top))
	m.Last = false
	h := last(hidden, 1, "r/.h", ".h")
	s.isWalk(anybody, r, "r", 1, true, top, m, h, over(top))
	s.isWalk(anybody, r, "r", -1, true,
		top, m, last(in, 2, "r/-/.only", ".only"), over(m), h, last(below, 2, "r/.h/f", "f"), over(h), over(top))
	// That from which a walk begins is visited, whatever it is called.
	start := first(hidden, ".h")
	s.isWalkOfAll(anybody, hidden, ".h", start, last(below, 1, ".h/f", "f"), over(start))
	// Of a hidden directory that can't be gone through nothing is told.
	s.mode(hidden, 0)
	m.Last = true
	s.isWalk(anybody, r, "r", -1, false, top, m, over(m), over(top))
}

// P12.2: directories that can't be gone through: ahead of others, between
// them, and behind.
func TestWalkWhereSomeAreClosed(t *testing.T) {
	s := newSite(t)
	r := s.dir(0, "r")
	ids := map[string]int{}
	for _, name := range []string{"e", "d", "c", "b", "a"} {
		ids[name] = s.dir(r, name)
		s.file(ids[name], "f")
	}
	f := ids["b"] + 1
	s.mode(ids["a"], 0711)
	s.mode(ids["c"], 0744)
	s.unreadable(ids["d"])
	s.mode(ids["e"], 0700)
	s.unreadable(ids["e"])
	top := first(r, "r")
	a, b, c := met(ids["a"], 1, "r/a", "a"), met(ids["b"], 1, "r/b", "b"), met(ids["c"], 1, "r/c", "c")
	d, e := met(ids["d"], 1, "r/d", "d"), last(ids["e"], 1, "r/e", "e")
	inB := last(f, 2, "r/b/f", "f")
	for _, all := range []bool{false, true} {
		for _, who := range everybody {
			// At the most none is gone into, so that nothing is wrong.
			s.isWalk(who, r, "r", 0, all, top)
			s.isWalk(who, r, "r", 1, all, top, a, b, c, d, e, over(top))
		}
		for _, most := range []int{2, 3, -1} {
			s.isWalk(anybody, r, "r", most, all, top, a, failed(a, api.ErrAccess), b, inB, over(b),
				c, failed(c, api.ErrAccess), d, failed(d, api.ErrIO), e, failed(e, api.ErrAccess), over(top))
			s.isWalk(super, r, "r", most, all, top, a, last(ids["a"]+1, 2, "r/a/f", "f"), over(a), b, inB, over(b),
				c, last(ids["c"]+1, 2, "r/c/f", "f"), over(c), d, failed(d, api.ErrIO), e, failed(e, api.ErrIO), over(top))
		}
	}
	// At the beginning.
	for id, fault := range map[int]api.Errno{ids["a"]: api.ErrAccess, ids["d"]: api.ErrIO, ids["e"]: api.ErrAccess} {
		s.isWalk(anybody, id, "here/", 0, true, first(id, "here/"))
		s.isWalk(anybody, id, "here/", 1, true, first(id, "here/"), failed(first(id, "here/"), fault))
		s.isWalkOfAll(anybody, id, "here/", first(id, "here/"), failed(first(id, "here/"), fault))
	}
	// What stands above isn't asked for.
	s.mode(r, 0)
	s.unreadable(r)
	s.isWalkOfAll(anybody, ids["b"], "b", first(ids["b"], "b"), last(f, 1, "b/f", "f"), over(first(ids["b"], "b")))
	s.isWalkOfAll(anybody, r, "r", top, failed(top, api.ErrAccess))
	s.isWalkOfAll(super, r, "r", top, failed(top, api.ErrIO))
}

// P12.2: the owner, the group and the others go through what each may.
func TestWalkByOwners(t *testing.T) {
	s := newSite(t)
	r := s.dir(0, "r")
	o, g, w := s.dir(r, "o"), s.dir(r, "g"), s.dir(r, "w")
	for id, mode := range map[int]int{o: 0500, g: 0050, w: 0005} {
		s.owner(id, 5, 6)
		s.mode(id, mode)
	}
	top := first(r, "r")
	vg, vo, vw := met(g, 1, "r/g", "g"), met(o, 1, "r/o", "o"), last(w, 1, "r/w", "w")
	no := func(v Visit) Visit { return failed(v, api.ErrAccess) }
	s.isWalkOfAll(api.Cred{Uid: 5, Gid: 6}, r, "r", top, vg, no(vg), vo, over(vo), vw, no(vw), over(top))
	s.isWalkOfAll(api.Cred{Uid: 7, Gid: 6}, r, "r", top, vg, over(vg), vo, no(vo), vw, no(vw), over(top))
	s.isWalkOfAll(anybody, r, "r", top, vg, no(vg), vo, no(vo), vw, over(vw), over(top))
	s.isWalkOfAll(super, r, "r", top, vg, over(vg), vo, over(vo), vw, over(vw), over(top))
}

// P12.2: what covers a directory stands in its place.
func TestWalkOfDevices(t *testing.T) {
	s := newSite(t)
	r := s.dir(0, "r")
	a := s.dir(r, "a")
	s.file(a, "before")
	device := s.cover(a)
	s.file(a, "late")
	in := s.dir(device, "in")
	s.file(in, "hidden")
	z := s.file(r, "z")
	top, vz := first(r, "r"), last(z, 1, "r/z", "z")
	va, vin := met(device, 1, "r/a", "a"), last(in, 2, "r/a/in", "in")
	vf := last(in+1, 3, "r/a/in/hidden", "hidden")
	s.isWalkOfAll(anybody, r, "r", top, va, vin, vf, over(vin), over(va), vz, over(top))
	s.isWalk(anybody, r, "r", 1, true, top, va, vz, over(top))
	// At the beginning, by the number of what is covered, and of what covers.
	start := first(device, "a")
	for _, id := range []int{a, device} {
		vin := last(in, 1, "a/in", "in")
		s.isWalk(anybody, id, "a", 0, true, start)
		s.isWalk(anybody, id, "a", 1, true, start, vin, over(start))
		s.isWalkOfAll(anybody, id, "a", start, vin, last(in+1, 2, "a/in/hidden", "hidden"), over(vin), over(start))
	}
	// A device over a directory of a device.
	second := s.cover(in)
	deep := s.file(second, "deep")
	vin = last(second, 2, "r/a/in", "in")
	s.isWalkOfAll(anybody, r, "r", top, va, vin, last(deep, 3, "r/a/in/deep", "deep"), over(vin), over(va), vz, over(top))
	// None goes right upon a device's first, so that nothing more covers it.
	for _, id := range []int{device, second} {
		if _, err := s.f.Do(vfs.Change{Kind: 7, To: id, A: 0755}); err != api.ErrArg {
			t.Errorf("a device over the first one of another: %s", errorNames[err])
		}
	}
	// What is covered is asked for nothing.
	s.mode(a, 0)
	s.unreadable(in)
	s.isWalkOfAll(anybody, r, "r", top, va, vin, last(deep, 3, "r/a/in/deep", "deep"), over(vin), over(va), vz, over(top))
	// What covers it is.
	s.mode(second, 0711)
	s.isWalkOfAll(anybody, r, "r", top, va, vin, failed(vin, api.ErrAccess), over(va), vz, over(top))
	s.unreadable(device)
	s.isWalkOfAll(anybody, r, "r", top, va, failed(va, api.ErrIO), vz, over(top))
	s.isWalkOfAll(anybody, a, "a", start, failed(start, api.ErrIO))
}

// P12.2: several names of one node are visited each.
func TestWalkOfNodesOfSeveralNames(t *testing.T) {
	s := newSite(t)
	a := s.dir(0, "a")
	f := s.file(a, "f")
	s.name(a, "again", f)
	b := s.dir(0, "b")
	s.name(b, "other", f)
	l := s.link(b, "l", "../a")
	s.name(0, "l", l)
	top := first(0, "")
	va, vb := met(a, 1, "/a", "a"), met(b, 1, "/b", "b")
	s.isWalkOfAll(anybody, 0, "",
		top, va, met(f, 2, "/a/again", "again"), last(f, 2, "/a/f", "f"), over(va),
		vb, met(l, 2, "/b/l", "l"), last(f, 2, "/b/other", "other"), over(vb),
		last(l, 1, "/l", "l"), over(top))
}

// P12.2, P4: links that lead back to where they stand end no walk, and are
// visited once.
func TestWalkWithLinksAround(t *testing.T) {
	s := newSite(t)
	a := s.dir(0, "a")
	up, self, top := s.link(a, "up", ".."), s.link(a, "self", "self"), s.link(a, "top", "/a/")
	va := first(a, "a")
	s.isWalkOfAll(anybody, a, "a",
		va, met(self, 1, "a/self", "self"), met(top, 1, "a/top", "top"), last(up, 1, "a/up", "up"), over(va))
}

// chain is directories, each in the one ahead; each has a file, too.
type chain struct {
	dirs, files []int
	// closed is the place of one that can't be read, if there is one.
	closed int
}

func newChain(s site, long int) chain {
	c := chain{closed: -1}
	at := 0
	for range long {
		at = s.dir(at, "d")
		c.dirs = append(c.dirs, at)
		c.files = append(c.files, s.file(at, "f"))
	}
	return c
}

// walk is the walk from a chain's directory on, which is met at a depth; at
// the depth end none is gone deeper.
func (c chain) walk(place, depth, end int) []Visit {
	v := met(c.dirs[place], depth, "d"+strings.Repeat("/d", depth), "d")
	v.Last = depth == 0
	switch {
	case depth == end:
		return []Visit{v}
	case place == c.closed:
		return []Visit{v, failed(v, api.ErrIO)}
	}
	walk := []Visit{v}
	if place+1 < len(c.dirs) {
		walk = append(walk, c.walk(place+1, depth+1, end)...)
	}
	return append(walk, last(c.files[place], depth+1, v.Name+"/f", "f"), over(v))
}

// deepMosts are mosts, and the depths at which none is gone deeper by them.
var deepMosts = map[int]int{
	0: 0, 1: 1, 2: 2, 50: 50, 98: 98, 99: 99, 100: 100,
	101: 100, 102: 100, 200: 100, math.MaxInt: 100, -1: 100, -2: 100, -99: 100, -100: 100, -101: 100, math.MinInt: 100,
}

// P12.2: at the depth MaxDepth none is gone deeper.
func TestWalkOfDeepTrees(t *testing.T) {
	for _, long := range []int{1, 2, 98, 99, 100, 101, 102, 103, 149} {
		s := newSite(t)
		c := newChain(s, long)
		for most, end := range deepMosts {
			// From further down there is more to be seen.
			for _, place := range []int{0, 1, 2, long - 2, long - 1} {
				if 0 <= place && place < long {
					s.isWalk(anybody, c.dirs[place], "d", most, false, c.walk(place, 0, end)...)
				}
			}
		}
	}
}

// P12.2: as deep as nodes go, without files.
func TestWalkOfTheDeepestTree(t *testing.T) {
	s := newSite(t)
	at := 0
	for range api.MaxNodes - 1 {
		at = s.dir(at, "d")
	}
	for _, who := range everybody {
		got := Walk(s.f, who, 0, "/", -1, true)
		if len(got) != 2*api.MaxDepth+1 {
			t.Fatalf("Walk by %v of the deepest tree: %d visits", who, len(got))
		}
		for i, v := range got {
			depth := min(i, 2*api.MaxDepth-i)
			want := last(depth, depth, "/"+strings.Repeat("d/", max(depth-1, 0))+"d", "d")
			if depth == 0 {
				want = first(0, "/")
			}
			want.Over = i > api.MaxDepth
			if v != want {
				t.Errorf("the visit %d by %v: %s\nwant:%s", i, who, told([]Visit{v}), told([]Visit{want}))
			}
		}
	}
}

// P12.2: one at the depth at which none is gone deeper isn't asked whether it
// can be gone through.
func TestWalkOfDeepClosedDirectories(t *testing.T) {
	for _, closed := range []int{1, 98, 99, 100, 101} {
		s := newSite(t)
		c := newChain(s, 110)
		c.closed = closed
		s.unreadable(c.dirs[closed])
		for most, end := range deepMosts {
			s.isWalk(anybody, c.dirs[0], "d", most, false, c.walk(0, 0, end)...)
		}
	}
}

// P12.2: as many entries as there may be nodes, and more names than nodes.
func TestWalkOfManyEntries(t *testing.T) {
	s := newSite(t)
	f := s.file(0, "f")
	top := first(0, "/")
	want := []Visit{top, met(f, 1, "/f", "f")}
	for i := range 2000 {
		name := fmt.Sprintf("n%04d", (i*7)%2000)
		s.name(0, name, f)
		want = append(want, met(f, 1, fmt.Sprintf("/n%04d", i), fmt.Sprintf("n%04d", i)))
	}
	want[len(want)-1].Last = true
	s.isWalkOfAll(anybody, 0, "/", append(want, over(top))...)
}

// P12.2: what is answered is new memory, and asking changes nothing.
func TestWalkIsNew(t *testing.T) {
	s, twin := newSite(t), newSite(t)
	ids := grove(s)
	grove(twin)
	want := Walk(twin.f, anybody, ids["r"], "r", -1, true)
	for range 3 {
		got := Walk(s.f, anybody, ids["r"], "r", -1, true)
		if !slices.Equal(got, want) {
			t.Fatalf("Walk again: %s", difference(got, want))
		}
		got = got[:cap(got)]
		for i := range got {
			got[i] = failed(over(met(99, 99, "spoilt", "spoilt")), api.ErrForm)
		}
	}
	if !s.f.Same(twin.f) {
		t.Error("Walk changed the file system")
	}
}
