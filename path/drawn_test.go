package path

import (
	"fmt"
	"math/rand"
	"strings"
	"testing"

	"domesday/api"
	"domesday/vfs"
)

// thing is a node as the tests know it: it hangs on its neighbours, not on
// numbers.
type thing struct {
	id, kind, mode, uid, gid int
	unreadable               bool
	text                     string
	up, cover                *thing
	kids                     map[string]*thing
}

// world is a file system, and the same one made of things.
type world struct {
	site
	random *rand.Rand
	root   *thing
	all    []*thing
}

func newWorld(t *testing.T, seed int64) *world {
	root := &thing{kind: api.Dir, mode: 0755, kids: map[string]*thing{}}
	root.up = root
	return &world{newSite(t), rand.New(rand.NewSource(seed)), root, []*thing{root}}
}

// pick draws one of a list.
func pick[T any](r *rand.Rand, l ...T) T {
	return l[r.Intn(len(l))]
}

// name draws a name, most often one of few.
func (w *world) name() string {
	return pick(w.random, "a", "b", "c", "d", "e", "a", "b", "c", "d", ".x", "...", strings.Repeat("n", api.MaxName), "\xffä ")
}

// path draws a path, or a link's text.
func (w *world) path(most int) string {
	path := pick(w.random, "", "/", "", "/", "//", "./", "../")
	for range w.random.Intn(most) + 1 {
		name := w.name()
		switch w.random.Intn(12) {
		case 0:
			name = "."
		case 1, 2:
			name = ".."
		case 3:
			name = pick(w.random, "gone", strings.Repeat("m", api.MaxName+1), "a", "b")
		}
		path += name + pick(w.random, "/", "/", "/", "//", "/./", "///")
	}
	if w.random.Intn(3) > 0 {
		path = strings.TrimRight(path, "/")
	}
	if path == "" {
		return "/"
	}
	return path
}

// grow draws a change, and makes it in both.
func (w *world) grow() {
	at := pick(w.random, w.all...)
	to := pick(w.random, w.all...)
	name := w.name()
	free := at.kind == api.Dir && at.kids[name] == nil
	mode := pick(w.random, 0755, 0755, 0700, 0711, 0111, 0070, 0007, 0666, 0)
	switch w.random.Intn(16) {
	case 0, 1, 2, 3, 4:
		if free {
			w.add(w.do(vfs.Change{Kind: 0, At: at.id, Name: name, A: 0755}), at, name, &thing{kind: api.Dir, mode: 0755, up: at})
		}
	case 5, 6:
		if free {
			w.add(w.do(vfs.Change{Kind: 1, At: at.id, Name: name, A: mode}), at, name, &thing{kind: api.File, mode: mode})
		}
	case 7, 8, 9, 10:
		if free {
			text := w.path(3)
			w.add(w.link(at.id, name, text), at, name, &thing{kind: api.Link, mode: 0777, text: text})
		}
	case 11, 12:
		if to.kind == api.Dir && to.cover == nil && !w.covers(to) {
			first := &thing{id: w.site.cover(to.id), kind: api.Dir, mode: 0755, up: to.up, kids: map[string]*thing{}}
			to.cover = first
			w.all = append(w.all, first)
		}
	case 13:
		w.site.mode(to.id, mode)
		to.mode = mode
	case 14:
		to.uid, to.gid = w.random.Intn(3), w.random.Intn(3)
		w.owner(to.id, to.uid, to.gid)
	case 15:
		if w.random.Intn(4) == 0 {
			w.unreadable(to.id)
			to.unreadable = true
		}
	}
}

// add lays a thing into a directory.
func (w *world) add(id int, at *thing, name string, x *thing) {
	x.id, x.kids = id, map[string]*thing{}
	at.kids[name] = x
	w.all = append(w.all, x)
}

// covers tells if a thing is the root, or covers another one.
func (w *world) covers(x *thing) bool {
	for _, y := range w.all {
		if y.cover == x {
			return true
		}
	}
	return x == w.root
}

// top is what covers a thing, or the thing.
func (x *thing) top() *thing {
	if x.cover != nil {
		return x.cover
	}
	return x
}

// open tells if somebody may search a thing that is a directory.
func (x *thing) open(who api.Cred) bool {
	digits := fmt.Sprintf("%03o", x.mode)
	odd := func(at int) bool { return strings.Contains("1357", digits[at:at+1]) }
	switch {
	case who.Uid == 0:
		return true
	case who.Uid == x.uid:
		return odd(0)
	case who.Gid == x.gid:
		return odd(1)
	}
	return odd(2)
}

// step goes by one name.
func (x *thing) step(who api.Cred, name string) (*thing, api.Errno) {
	switch kid := x.kids[name]; {
	case x.kind != api.Dir:
		return nil, api.ErrNotDir
	case !x.open(who):
		return nil, api.ErrAccess
	case len(name) > api.MaxName:
		return nil, api.ErrLong
	case name == ".":
		return x, api.OK
	case name == "..":
		return x.up.top(), api.OK
	case x.unreadable:
		return nil, api.ErrIO
	case kid == nil:
		return nil, api.ErrNoEnt
	default:
		return kid.top(), api.OK
	}
}

// walk goes a path by its text: a link's text takes the place of its name, so
// that what stands behind is found again as it stood.
func (w *world) walk(who api.Cred, path string, follow bool) answer {
	if path == "" {
		return fault(api.ErrNoEnt)
	}
	if len(path) > api.MaxPath {
		return fault(api.ErrLong)
	}
	at, hops := w.root, 0
	came := bare(0, 0)
	for rest := strings.TrimLeft(path, "/"); rest != ""; {
		size := strings.IndexByte(rest+"/", '/')
		name, behind := rest[:size], rest[size:]
		next, err := at.step(who, name)
		if err != api.OK {
			return fault(err)
		}
		if next.kind == api.Link && (behind != "" || follow) {
			hops++
			if hops > 40 {
				return fault(api.ErrLoop)
			}
			if next.unreadable {
				return fault(api.ErrIO)
			}
			rest = next.text + behind
			if rest[0] == '/' {
				at, came = w.root, bare(0, 0)
			}
			rest = strings.TrimLeft(rest, "/")
			continue
		}
		rest = strings.TrimLeft(behind, "/")
		if rest == "" && behind != "" && next.kind != api.Dir {
			return fault(api.ErrNotDir)
		}
		came = entry(next.id, at.id, name, 0)
		if name == "." || name == ".." {
			came = bare(next.id, 0)
		}
		at = next
	}
	came.place.Hops = hops
	return came
}

// askers are those who walk in the worlds that are drawn.
var askers = []api.Cred{{}, {Uid: 1, Gid: 1}, {Uid: 2, Gid: 1}, {Uid: 1, Gid: 2}, {Uid: 9, Gid: 9}, {Uid: 0, Gid: 5}}

// inWorlds draws worlds, and in each of them who walks, and where to.
func inWorlds(t *testing.T, worlds, walks int, ask func(w *world, who api.Cred, path string, follow bool)) {
	for seed := range worlds {
		w := newWorld(t, int64(seed))
		for range 20 + w.random.Intn(120) {
			w.grow()
		}
		for range walks {
			ask(w, pick(w.random, askers...), w.path(8), w.random.Intn(2) == 0)
		}
		if t.Failed() {
			t.Fatalf("in the world %d", seed)
		}
	}
}

// P8.1
func TestWalkInDrawnWorlds(t *testing.T) {
	errs, hops := map[api.Errno]int{}, map[int]int{}
	inWorlds(t, 600, 400, func(w *world, who api.Cred, path string, follow bool) {
		want := w.walk(who, path, follow)
		w.walks(who, path, follow, want)
		errs[want.err]++
		hops[min(want.place.Hops, 3)]++
	})
	for _, err := range []api.Errno{api.OK, api.ErrNoEnt, api.ErrNotDir, api.ErrAccess, api.ErrLoop, api.ErrLong, api.ErrIO} {
		if errs[err] < 100 {
			t.Errorf("too few walks to %s: %d", errorNames[err], errs[err])
		}
	}
	for n := range 4 {
		if hops[n] < 100 {
			t.Errorf("too few walks over %d links: %d", n, hops[n])
		}
	}
}

// P8.2
func TestMoreSlashesAndPointsBetweenComeToTheSame(t *testing.T) {
	inWorlds(t, 150, 100, func(w *world, who api.Cred, path string, follow bool) {
		place, err := Walk(w.f, who, path, follow)
		want := answer{place, err}
		for range 5 {
			w.walks(who, w.stretch(path), follow, want)
		}
	})
}

// stretch lays more /s, and points between, into a path.
func (w *world) stretch(path string) string {
	names, begins, ends := Names(path)
	gap := func() string { return pick(w.random, "/", "//", "/./", "/.//./", "////") }
	long := strings.Join(names, "\x00")
	for strings.Contains(long, "\x00") {
		long = strings.Replace(long, "\x00", gap(), 1)
	}
	if begins || w.random.Intn(2) == 0 {
		long = strings.Repeat("/", 1+w.random.Intn(3)) + long
	}
	if ends && len(names) > 0 {
		long += strings.Repeat("/", 1+w.random.Intn(3))
	}
	return long
}

// P8.2: at each of the places by itself.
func TestMoreSlashesAndPointsByTable(t *testing.T) {
	s := newSite(t)
	a := s.dir(0, "a")
	b := s.dir(a, "b")
	c := s.file(b, "c")
	s.link(0, "l", "a/b")
	for _, path := range []string{
		"/a/b/c", "a/b/c", "//a/b/c", "/a//b/c", "/a/b///c", "/./a/b/c", "./a/b/c", "/a/./b/c", "/a/b/./c", "/a/././b/.//c",
		".//.//a/b/c", "///a///b///c",
	} {
		s.both(path, entry(c, b, "c", 0))
	}
	for _, path := range []string{"/l/c", "l/c", "/l//c", "/l/./c", "/./l/././/c", "//l///c"} {
		s.both(path, entry(c, b, "c", 1))
	}
	for _, path := range []string{"/a/b/", "/a/b//", "/a/b", "//a//./b///"} {
		s.both(path, entry(b, a, "b", 0))
	}
	for _, path := range []string{"/a/b/c/d", "/a/b/c//d", "/a/b/c/./d", "/a/b/c/", "/a/b/c//"} {
		s.both(path, fault(api.ErrNotDir))
	}
}

// P8.1: a walk leaves the file system as it is, and what it answers hangs on
// no walk ahead of it.
func TestWalksChangeNothing(t *testing.T) {
	for seed := range 20 {
		w, twin := newWorld(t, int64(seed)), newWorld(t, int64(seed))
		for range 80 {
			w.grow()
			twin.grow()
		}
		for range 200 {
			who, path := pick(w.random, askers...), w.path(8)
			first, err := Walk(w.f, who, path, true)
			w.walks(who, path, true, answer{first, err})
			twin.walks(who, path, true, answer{first, err})
		}
		if !w.f.Same(twin.f) {
			t.Errorf("the world %d was changed by walks", seed)
		}
	}
}
