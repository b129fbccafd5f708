package real

import (
	"math/rand"
	"strings"
	"testing"

	"domesday/api"
	"domesday/path"
	"domesday/vfs"
)

// dir is what the tests know of a directory from the changes alone: where it,
// or the one that it covers, was built, and by which name.
type dir struct {
	at   int
	name string
}

// world is a file system that is drawn, and the notes that were taken of it.
type world struct {
	site
	random     *rand.Rand
	dirs       map[int]dir
	firsts     map[int]int
	texts      map[int]string
	unreadable map[int]bool
}

func newWorld(t *testing.T, seed int64) *world {
	return &world{
		newSite(t), rand.New(rand.NewSource(seed)),
		map[int]dir{0: {}}, map[int]int{}, map[int]string{}, map[int]bool{},
	}
}

// pick draws one of a list.
func pick[T any](r *rand.Rand, l ...T) T {
	return l[r.Intn(len(l))]
}

// path draws a path, or a link's text.
func (w *world) path(most int) string {
	path := pick(w.random, "", "", "/", "//", "./", "../")
	for range w.random.Intn(most) + 1 {
		path += pick(w.random, "a", "b", "c", "d", "a", "b", "c", "d", "...", "..", "..", ".", "gone")
		path += pick(w.random, "/", "/", "/", "//", "/./")
	}
	if w.random.Intn(3) > 0 {
		path = strings.TrimRight(path, "/")
	}
	return path
}

// grow draws a change, and takes notes of it, if it is taken.
func (w *world) grow() {
	count := w.f.Count()
	c := vfs.Change{
		Kind: pick(w.random, 0, 0, 0, 0, 1, 2, 3, 3, 3, 4, 5, 7, 7, 8),
		At:   w.random.Intn(count),
		To:   w.random.Intn(count),
		Name: pick(w.random, "a", "b", "c", "d", "..."),
		Text: w.path(3),
		A:    0755,
	}
	switch c.Kind {
	case 4:
		c.A = pick(w.random, 0755, 0700, 0711, 0070, 0644)
	case 5:
		c.A, c.B = w.random.Intn(3), w.random.Intn(3)
	case 8:
		// Where too much can't be read, there is nothing left to be told.
		if w.random.Intn(3) > 0 || c.To == 0 {
			return
		}
	}
	id, err := w.f.Do(c)
	if err != api.OK {
		return
	}
	switch c.Kind {
	case 0:
		w.dirs[id] = dir{c.At, c.Name}
	case 3:
		w.texts[id] = c.Text
	case 7:
		w.dirs[id] = w.dirs[c.To]
		w.firsts[c.To] = id
	case 8:
		w.unreadable[c.To] = true
	}
}

// top is what covers a directory, or the directory.
func (w *world) top(id int) int {
	if first, ok := w.firsts[id]; ok {
		return first
	}
	return id
}

// real tells a directory's real path from the notes. What has its name in a
// directory that was covered is not to be found from the one above.
func (w *world) real(id int) answer {
	d, ok := w.dirs[id]
	switch above := w.top(d.at); {
	case !ok:
		return fault(api.ErrNotDir)
	case id == 0:
		return text("/")
	case w.unreadable[above]:
		return fault(api.ErrIO)
	case above != d.at:
		return fault(api.ErrNoEnt)
	default:
		return w.below(above, d.name)
	}
}

// below tells the real path of a name in a directory.
func (w *world) below(id int, name string) answer {
	switch head := w.real(id); {
	case name == "" || head.err != api.OK:
		return head
	case id == 0:
		return text("/" + name)
	default:
		return text(head.text + "/" + name)
	}
}

// near tells what Near should, from where walks come to.
func (w *world) near(who api.Cred, whole string) answer {
	place, err := path.Walk(w.f, who, whole, true)
	names, _, _ := path.Names(whole)
	switch {
	case err == api.OK:
		return w.below(place.Dir, place.Name)
	case err != api.ErrNoEnt || len(names) == 0:
		return fault(err)
	}
	head, last := "/"+strings.Join(names[:len(names)-1], "/")+"/", names[len(names)-1]
	place, err = path.Walk(w.f, who, head, true)
	_, there := path.Walk(w.f, who, head+last, false)
	if err != api.OK || there != api.ErrNoEnt || last == "." || last == ".." {
		return fault(api.ErrNoEnt)
	}
	return w.below(place.Id, last)
}

// read tells what Read should, from where walks come to.
func (w *world) read(who api.Cred, whole string) answer {
	place, err := path.Walk(w.f, who, whole, false)
	target, isLink := w.texts[place.Id]
	switch {
	case err != api.OK:
		return fault(err)
	case !isLink:
		return fault(api.ErrArg)
	case w.unreadable[place.Id]:
		return fault(api.ErrIO)
	default:
		return text(target)
	}
}

// askers are those who walk in the worlds that are drawn.
var askers = []api.Cred{super, {Uid: 1, Gid: 1}, {Uid: 2, Gid: 1}, {Uid: 1, Gid: 2}, anybody, {Uid: 0, Gid: 5}}

// inWorlds draws worlds, and asks in each.
func inWorlds(t *testing.T, worlds int, ask func(w *world)) {
	for seed := range worlds {
		w := newWorld(t, int64(seed))
		for range 20 + w.random.Intn(150) {
			w.grow()
		}
		ask(w)
		if t.Failed() {
			t.Fatalf("in the world %d", seed)
		}
	}
}

// seen counts the errors that were met, so that a test tells if it met few.
type seen map[api.Errno]int

func (s seen) enough(t *testing.T, errs ...api.Errno) {
	t.Helper()
	for _, err := range errs {
		if s[err] < 100 {
			t.Errorf("too few answers of %s: %d", errorNames[err], s[err])
		}
	}
}

// P9.1, P9.2
func TestDirInDrawnWorlds(t *testing.T) {
	errs := seen{}
	inWorlds(t, 400, func(w *world) {
		for id := -1; id <= w.f.Count(); id++ {
			want := w.real(id)
			w.isDir(id, want)
			errs[want.err]++
			if want.err == api.OK {
				w.isReal(super, want.text, w.top(id))
			}
		}
	})
	errs.enough(t, api.OK, api.ErrNoEnt, api.ErrNotDir, api.ErrIO)
}

// P9.1, P9.2
func TestOfAndNearInDrawnWorlds(t *testing.T) {
	errs, near := seen{}, seen{}
	inWorlds(t, 400, func(w *world) {
		for range 200 {
			who, whole := pick(w.random, askers...), w.path(6)
			want := w.near(who, whole)
			near[want.err]++
			place, err := path.Walk(w.f, who, whole, true)
			errs[err]++
			switch {
			case err == api.OK:
				w.isOf(who, whole, want.text, place.Id)
			case want.err == api.OK:
				w.onlyNear(who, whole, want.text)
			default:
				w.noOf(who, whole, err)
				w.isNear(who, whole, want)
			}
		}
	})
	all := []api.Errno{api.OK, api.ErrNoEnt, api.ErrNotDir, api.ErrAccess, api.ErrLoop, api.ErrIO}
	errs.enough(t, all...)
	near.enough(t, all...)
	if errs[api.ErrNoEnt]-near[api.ErrNoEnt] < 100 {
		t.Errorf("too few answers of what isn't there: %v, %v", errs, near)
	}
}

// P9.1
func TestReadInDrawnWorlds(t *testing.T) {
	errs := seen{}
	inWorlds(t, 400, func(w *world) {
		for range 200 {
			who, whole := pick(w.random, askers...), w.path(6)
			want := w.read(who, whole)
			w.isRead(who, whole, want)
			errs[want.err]++
		}
	})
	errs.enough(t, api.OK, api.ErrArg, api.ErrNoEnt, api.ErrNotDir, api.ErrAccess, api.ErrLoop, api.ErrIO)
}

// P9.1: what is told leaves the file system as it is.
func TestRealPathsChangeNothing(t *testing.T) {
	for seed := range 20 {
		w, twin := newWorld(t, int64(seed)), newWorld(t, int64(seed))
		for range 100 {
			w.grow()
			twin.grow()
		}
		for id := range w.f.Count() {
			who, whole := pick(w.random, askers...), w.path(6)
			for range 2 {
				w.isDir(id, asAnswer(Dir(twin.f, id)))
				w.isNear(who, whole, asAnswer(Near(twin.f, who, whole)))
				w.isRead(who, whole, asAnswer(Read(twin.f, who, whole)))
			}
			Of(w.f, who, whole)
		}
		if !w.f.Same(twin.f) {
			t.Errorf("the world %d was changed", seed)
		}
	}
}
