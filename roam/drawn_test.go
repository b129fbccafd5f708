package roam

import (
	"maps"
	"math"
	"math/rand"
	"slices"
	"strings"
	"testing"

	"domesday/api"
	"domesday/vfs"
)

// noted is what the tests know of a directory from the changes alone.
type noted struct {
	mode, uid, gid int
	unreadable     bool
	entries        map[string]int
}

// world is a file system that is drawn, and the notes that were taken of it.
type world struct {
	site
	random *rand.Rand
	dirs   map[int]*noted
	firsts map[int]int
	// deep is how many in ten changes are made in the directory made last.
	deep   int
	newest int
}

func newWorld(t *testing.T, seed int64) *world {
	w := &world{
		site: newSite(t), random: rand.New(rand.NewSource(seed)), dirs: map[int]*noted{}, firsts: map[int]int{},
	}
	w.deep = pick(w.random, 0, 0, 3, 8, 10)
	w.note(0, 0755)
	return w
}

// note takes notes of a new directory.
func (w *world) note(id, mode int) {
	w.dirs[id] = &noted{mode: mode, entries: map[string]int{}}
	w.newest = id
}

// pick draws one of a list.
func pick[T any](r *rand.Rand, l ...T) T {
	return l[r.Intn(len(l))]
}

// grow draws a change, and takes notes of it, if it is taken.
func (w *world) grow() {
	c := vfs.Change{
		Kind: pick(w.random, 0, 0, 0, 0, 0, 0, 0, 1, 1, 2, 2, 3, 3, 4, 5, 7, 8),
		At:   w.random.Intn(w.f.Count()),
		To:   w.random.Intn(w.f.Count()),
		Name: pick(w.random, "a", "b", "ab", "B", "10", "9", ".h", "..a", "...", "-", "\xff", "\u3042", "z z"),
		Text: pick(w.random, "..", "/", "a", "gone"),
		A:    0755,
	}
	if w.random.Intn(10) < w.deep {
		c.At = w.newest
	}
	switch c.Kind {
	case 4:
		c.A = pick(w.random, 0755, 0755, 0700, 0711, 0744, 0070, 0005, 0)
	case 5:
		c.A, c.B = w.random.Intn(3), w.random.Intn(3)
	}
	// Where too much is closed, or covered, the walks aren't deep.
	if c.Kind >= 4 && w.random.Intn(10) < w.deep {
		return
	}
	id, err := w.f.Do(c)
	if err == api.OK {
		w.take(c, id)
	}
}

// take takes notes of a change.
func (w *world) take(c vfs.Change, id int) {
	to, isDir := w.dirs[c.To]
	switch c.Kind {
	case 0:
		w.dirs[c.At].entries[c.Name] = id
		w.note(id, c.A)
	case 1, 3:
		w.dirs[c.At].entries[c.Name] = id
	case 2:
		w.dirs[c.At].entries[c.Name] = c.To
	case 7:
		w.firsts[c.To] = id
		w.note(id, c.A)
	}
	if !isDir {
		return
	}
	switch c.Kind {
	case 4:
		to.mode = c.A
	case 5:
		to.uid, to.gid = c.A, c.B
	case 8:
		to.unreadable = true
	}
}

// isOpen tells if somebody may read and search a directory.
func (d *noted) isOpen(who api.Cred) bool {
	digit := d.mode % 010
	switch {
	case who.Uid == 0:
		return true
	case who.Uid == d.uid:
		digit = d.mode / 0100 % 010
	case who.Gid == d.gid:
		digit = d.mode / 010 % 010
	}
	return digit == 5 || digit == 7
}

// shown tells from the notes what Shown should.
func (w *world) shown(who api.Cred, id int, all bool) ([]api.Entry, api.Errno) {
	d, isDir := w.dirs[id]
	switch {
	case id < 0 || id >= w.f.Count():
		return nil, api.ErrNoEnt
	case !isDir:
		return nil, api.ErrNotDir
	case !d.isOpen(who):
		return nil, api.ErrAccess
	case d.unreadable:
		return nil, api.ErrIO
	}
	var l []api.Entry
	for _, name := range slices.Sorted(maps.Keys(d.entries)) {
		if all || name[0] != '.' {
			l = append(l, entry(name, d.entries[name]))
		}
	}
	return l, api.OK
}

// walk tells from the notes, by calling itself, what Walk should of one that
// is met.
func (w *world) walk(who api.Cred, v Visit, most int, all bool) []Visit {
	if first, ok := w.firsts[v.Id]; ok {
		v.Id = first
	}
	told := []Visit{v}
	if w.dirs[v.Id] == nil || v.Depth == api.MaxDepth || most >= 0 && v.Depth >= most {
		return told
	}
	l, err := w.shown(who, v.Id, all)
	if err != api.OK {
		return append(told, failed(v, err))
	}
	ahead := v.Name
	if ahead == "" || ahead[len(ahead)-1] != '/' {
		ahead += "/"
	}
	for i, e := range l {
		below := met(e.Id, v.Depth+1, ahead+e.Name, e.Name)
		below.Last = i == len(l)-1
		told = append(told, w.walk(who, below, most, all)...)
	}
	return append(told, over(v))
}

// askers are those who walk in the worlds that are drawn.
var askers = []api.Cred{super, {Uid: 1, Gid: 1}, {Uid: 2, Gid: 1}, {Uid: 1, Gid: 2}, anybody, {Uid: 0, Gid: 5}}

// inWorlds draws worlds, and asks in each.
func inWorlds(t *testing.T, worlds int, ask func(w *world)) {
	for seed := range worlds {
		w := newWorld(t, int64(seed))
		for range 20 + w.random.Intn(100+60*w.deep) {
			w.grow()
		}
		ask(w)
		if t.Failed() {
			t.Fatalf("in the world %d", seed)
		}
	}
}

// P12.1
func TestShownInDrawnWorlds(t *testing.T) {
	seen := map[api.Errno]int{}
	inWorlds(t, 200, func(w *world) {
		for id := -2; id < w.f.Count()+2; id++ {
			for _, all := range []bool{false, true} {
				who := pick(w.random, askers...)
				want, err := w.shown(who, id, all)
				seen[err]++
				if err == api.OK {
					w.isShown(who, id, all, want...)
				} else {
					w.notShown(who, id, err)
				}
			}
		}
	})
	for _, err := range []api.Errno{api.OK, api.ErrNoEnt, api.ErrNotDir, api.ErrAccess, api.ErrIO} {
		if seen[err] < 300 {
			t.Errorf("too few answers of %s: %v", errorNames[err], seen)
		}
	}
}

// P12.2, P12.3
func TestWalkInDrawnWorlds(t *testing.T) {
	deepest, seen := 0, map[api.Errno]int{}
	inWorlds(t, 400, func(w *world) {
		for range 40 {
			who, id, all := pick(w.random, askers...), w.random.Intn(w.f.Count()), w.random.Intn(2) == 0
			if w.random.Intn(4) == 0 {
				id = 0
			}
			name := pick(w.random, "", "/", "a", "a/", "x//", ".h")
			most := pick(w.random, -1, -1, -1, 0, 1, 2, 3, 5, 40, 99, 100, 101, math.MaxInt, math.MinInt)
			want := w.walk(who, first(id, name), most, all)
			w.isWalk(who, id, name, most, all, want...)
			w.isOverOnce(who, Walk(w.f, who, id, name, most, all), most, all)
			for _, v := range want {
				deepest = max(deepest, v.Depth)
				seen[v.Err]++
			}
		}
	})
	if deepest != api.MaxDepth || seen[api.OK] < 1000 || seen[api.ErrAccess] < 300 || seen[api.ErrIO] < 300 {
		t.Errorf("too little was met: %v, %d deep", seen, deepest)
	}
}

// isOverOnce holds visits against P12.3: of each directory that is gone
// through there is one visit more, behind all below it, and of nothing else.
func (w *world) isOverOnce(who api.Cred, visits []Visit, most int, all bool) {
	w.t.Helper()
	overs := 0
	for _, v := range visits {
		if v.Over {
			overs++
		}
	}
	for i, v := range visits {
		if v.Over || v.Err != api.OK {
			continue
		}
		end := i + 1
		for end < len(visits) && visits[end].Depth > v.Depth {
			if !strings.HasPrefix(visits[end].Name, v.Name) {
				w.t.Errorf("%s is met in %s", short(visits[end].Name), short(v.Name))
			}
			end++
		}
		_, err := Shown(w.f, who, v.Id, all)
		if err != api.OK || v.Depth >= api.MaxDepth || most >= 0 && v.Depth >= most {
			continue
		}
		overs--
		if end == len(visits) || visits[end] != over(v) {
			w.t.Errorf("%s isn't over behind all below it", short(v.Name))
		}
	}
	if overs != 0 {
		w.t.Errorf("%d visits more tell that something is over than are gone through", overs)
	}
}

// P12.2, P4: each entry that is shown is visited once, whatever else there is.
func TestWalkMeetsEachEntryOnce(t *testing.T) {
	inWorlds(t, 100, func(w *world) {
		for _, who := range askers {
			names := map[string]int{}
			gone := 0
			for _, v := range Walk(w.f, who, 0, "/", -1, true) {
				switch {
				case v.Over:
					entries, _ := w.f.List(v.Id)
					gone += len(entries)
				case v.Err == api.OK:
					names[v.Name]++
				}
			}
			if len(names) != gone+1 {
				t.Errorf("by %v: %d names were met, of %d entries and the root", who, len(names), gone)
			}
			for name, times := range names {
				if times != 1 {
					t.Errorf("by %v: %s was met %d times", who, short(name), times)
				}
			}
		}
	})
}

// grown is a world that has grown by so many changes.
func grown(t *testing.T, seed, changes int) *world {
	w := newWorld(t, int64(seed))
	for range changes {
		w.grow()
	}
	return w
}

// P12.1, P12.2: asking changes nothing.
func TestAskingChangesNothing(t *testing.T) {
	for seed := range 20 {
		w, twin, untouched := grown(t, seed, 150), grown(t, seed, 150), grown(t, seed, 150)
		for id := -1; id <= w.f.Count(); id++ {
			who, all := pick(w.random, askers...), w.random.Intn(2) == 0
			for range 2 {
				w.isWalk(who, id, "x", -1, all, Walk(twin.f, who, id, "x", -1, all)...)
				want, err := Shown(twin.f, who, id, all)
				if err == api.OK {
					w.isShown(who, id, all, want...)
				} else {
					w.notShown(who, id, err)
				}
			}
		}
		if !w.f.Same(untouched.f) || !twin.f.Same(untouched.f) {
			t.Errorf("the world %d was changed", seed)
		}
	}
}
