package real

import (
	"fmt"
	"math"
	"slices"
	"strings"
	"testing"

	"domesday/api"
	"domesday/path"
)

// isReal holds a real path against P9.2: it is walked to the node, with no
// link followed, and is its own.
func (s site) isReal(who api.Cred, real string, id int) {
	s.t.Helper()
	s.isPlain(real)
	for _, follow := range []bool{false, true} {
		place, err := path.Walk(s.f, who, real, follow)
		if place.Id != id || place.Hops != 0 || err != api.OK {
			s.t.Errorf("Walk by %v of the real path %s: %+v, %s, want %d", who, short(real), place, errorNames[err], id)
		}
	}
	if told, node, err := Of(s.f, who, real); told != real || node != id || err != api.OK {
		s.t.Errorf("Of by %v of the real path %s: %s, %d, %s, want %d", who, short(real), short(told), node, errorNames[err], id)
	}
}

// P9.1
func TestDirByTable(t *testing.T) {
	s := newSite(t)
	s.isDir(0, text("/"))
	a := s.dir(0, "a")
	b := s.dir(a, "b")
	c := s.dir(b, "c")
	s.file(0, "f")
	s.link(0, "l", "a/b")
	s.file(a, "c")
	second := s.dir(0, "second")
	third := s.dir(0, "third")
	below := s.dir(second, "b")
	odd := s.dir(third, " \n\xff'...")
	points := s.dir(odd, "...")
	long := s.dir(third, strings.Repeat("n", api.MaxName))
	s.isDir(0, text("/"))
	s.isDir(a, text("/a"))
	s.isDir(b, text("/a/b"))
	s.isDir(c, text("/a/b/c"))
	s.isDir(second, text("/second"))
	s.isDir(third, text("/third"))
	s.isDir(below, text("/second/b"))
	s.isDir(odd, text("/third/ \n\xff'..."))
	s.isDir(points, text("/third/ \n\xff'.../..."))
	s.isDir(long, text("/third/"+strings.Repeat("n", api.MaxName)))
}

// P9.1: as deep as directories may stand, also where the path has more bytes
// than one that is walked.
func TestDirOfDeepDirectories(t *testing.T) {
	for _, name := range []string{"d", strings.Repeat("n", api.MaxName)} {
		s := newSite(t)
		at, want := 0, ""
		for range api.MaxNodes - 1 {
			at = s.dir(at, name)
			want += "/" + name
			s.isDir(at, text(want))
			if len(want) <= api.MaxPath {
				s.isOf(anybody, want, want, at)
			}
		}
		s.isDir(0, text("/"))
	}
}

// P9.1
func TestDirOfWhatIsNoDirectory(t *testing.T) {
	s := newSite(t)
	a := s.dir(0, "a")
	b := s.dir(0, "b")
	none := []int{
		s.file(0, "f"), s.link(0, "l", "a"), s.link(0, "top", "/"), s.file(a, "f"), s.file(b, "f"), s.link(b, "l", "/a"),
	}
	s.unreadable(none[1])
	// That it is no directory is asked ahead of all above.
	s.unreadable(a)
	s.cover(b)
	count := s.f.Count()
	none = append(none, -1, count, count+1, api.MaxNodes, math.MinInt, math.MaxInt)
	for _, id := range none {
		s.isDir(id, fault(api.ErrNotDir))
	}
}

// P9.1
func TestDirOfDevices(t *testing.T) {
	s := newSite(t)
	a := s.dir(0, "a")
	x := s.dir(a, "x")
	y := s.dir(x, "y")
	first := s.cover(a)
	s.isDir(a, text("/a"))
	s.isDir(first, text("/a"))
	// What stood there before isn't found any more.
	s.isDir(x, fault(api.ErrNoEnt))
	s.isDir(y, fault(api.ErrNoEnt))
	s.isDir(s.dir(a, "late"), fault(api.ErrNoEnt))
	s.isDir(s.cover(x), fault(api.ErrNoEnt))
	s.isDir(s.dir(y, "z"), fault(api.ErrNoEnt))
	// Another one of the same name is none of those.
	again := s.dir(first, "x")
	s.isDir(again, text("/a/x"))
	s.isDir(x, fault(api.ErrNoEnt))
	s.isDir(y, fault(api.ErrNoEnt))
	s.isDir(s.dir(again, "y"), text("/a/x/y"))
	// Devices in a device.
	second := s.cover(again)
	s.isDir(second, text("/a/x"))
	s.isDir(again, text("/a/x"))
	deep := s.dir(second, "deep")
	third := s.cover(deep)
	end := s.dir(third, "end")
	s.isDir(deep, text("/a/x/deep"))
	s.isDir(third, text("/a/x/deep"))
	s.isDir(end, text("/a/x/deep/end"))
	s.isDir(0, text("/"))
	for _, who := range everybody {
		s.isOf(who, "/a", "/a", first)
		s.isOf(who, "/a/.", "/a", first)
		s.isOf(who, "/a/x/deep/end/../../..", "/a", first)
		s.isOf(who, "/a/x/deep/end", "/a/x/deep/end", end)
		s.isOf(who, "/a/x/deep/end/..", "/a/x/deep", third)
		s.isOf(who, "/a/x/../x/deep/", "/a/x/deep", third)
		s.onlyNear(who, "/a/late", "/a/late")
		s.onlyNear(who, "/a/x/deep/end/../gone", "/a/x/deep/gone")
		s.neither(who, "/a/x/y/z", api.ErrNoEnt)
	}
}

// P9.1: devices whose firsts stand behind others in a directory.
func TestDirOfDevicesSideBySide(t *testing.T) {
	s := newSite(t)
	var covered, firsts []int
	for i := range 5 {
		covered = append(covered, s.dir(0, fmt.Sprint("d", i)))
	}
	for i := range covered {
		firsts = append(firsts, s.cover(covered[len(covered)-1-i]))
	}
	slices.Reverse(firsts)
	for i := range covered {
		want := fmt.Sprint("/d", i)
		s.isDir(covered[i], text(want))
		s.isDir(firsts[i], text(want))
		s.isDir(s.dir(firsts[i], "in"), text(want+"/in"))
		s.isDir(s.dir(covered[i], "in"), fault(api.ErrNoEnt))
	}
}

// P9.1
func TestDirBelowWhatCanNotBeRead(t *testing.T) {
	s := newSite(t)
	a := s.dir(0, "a")
	b := s.dir(a, "b")
	c := s.dir(b, "c")
	d := s.dir(c, "d")
	s.unreadable(b)
	s.isDir(0, text("/"))
	s.isDir(a, text("/a"))
	s.isDir(b, text("/a/b"))
	s.isDir(c, fault(api.ErrIO))
	s.isDir(d, fault(api.ErrIO))
	s.unreadable(0)
	s.isDir(0, text("/"))
	for _, id := range []int{a, b, c, d} {
		s.isDir(id, fault(api.ErrIO))
	}
}

// P9.1: who asks isn't asked for, so that modes close nothing.
func TestDirOfClosedDirectories(t *testing.T) {
	s := newSite(t)
	a := s.dir(0, "a")
	b := s.dir(a, "b")
	for _, id := range []int{0, a, b} {
		s.mode(id, 0)
	}
	s.isDir(0, text("/"))
	s.isDir(a, text("/a"))
	s.isDir(b, text("/a/b"))
}

// P9.1: of several errors, that which is met first on the way up.
func TestDirWhereSeveralErrorsStand(t *testing.T) {
	s := newSite(t)
	a := s.dir(0, "a")
	x := s.dir(a, "x")
	y := s.dir(x, "y")
	z := s.dir(y, "z")
	first := s.cover(a)
	in := s.dir(first, "in")
	s.isDir(y, fault(api.ErrNoEnt))
	s.unreadable(x)
	s.isDir(x, fault(api.ErrNoEnt))
	s.isDir(y, fault(api.ErrIO))
	s.isDir(z, fault(api.ErrIO))
	// What is covered isn't what stands above.
	s.unreadable(a)
	s.isDir(a, text("/a"))
	s.isDir(first, text("/a"))
	s.isDir(in, text("/a/in"))
	s.isDir(x, fault(api.ErrNoEnt))
	s.unreadable(0)
	s.isDir(x, fault(api.ErrNoEnt))
	s.isDir(in, fault(api.ErrIO))
	s.unreadable(first)
	s.isDir(x, fault(api.ErrIO))
}

// P9.1, P9.2
func TestOfByTable(t *testing.T) {
	s := newSite(t)
	a := s.dir(0, "a")
	b := s.dir(a, "b")
	f := s.file(b, "f")
	g := s.file(0, "g")
	for _, who := range everybody {
		for _, path := range []string{
			"/", "//", "/.", ".", "./", "..", "/..", "../..", "/../.", "/a/..", "/a/../", "a/b/../..", "/a/b/./../../..",
		} {
			s.isOf(who, path, "/", 0)
		}
		for _, path := range []string{
			"/a", "a", "/a/", "a//", "//a", "/a/.", "a/.", "/a/./", "/./a", "/../a", "/a/b/..", "a/b/../", "/a/../a", "/a/b/../../a",
		} {
			s.isOf(who, path, "/a", a)
		}
		for _, path := range []string{"/a/b", "a/b/", "//a//b//", "/a/b/.", "/a/../a/b", "a/./b/../b/."} {
			s.isOf(who, path, "/a/b", b)
		}
		for _, path := range []string{"/a/b/f", "a/b/f", "/a//b///f", "/a/./b/./f", "/a/b/../b/f"} {
			s.isOf(who, path, "/a/b/f", f)
		}
		for _, path := range []string{"/g", "g", "///g", "./g", "/a/b/../../g"} {
			s.isOf(who, path, "/g", g)
		}
		for _, path := range []string{"/g/", "/g/.", "/g/..", "/g/x", "/a/b/f/", "/a/b/f/gone", "/a/b/f/../f"} {
			s.neither(who, path, api.ErrNotDir)
		}
		for _, path := range []string{"", "/gone/x", "/gone/.", "/gone/..", "gone/./x", "/a/gone/b/f", "/a/b/gone/x/"} {
			s.neither(who, path, api.ErrNoEnt)
		}
	}
}

// P9.1: a file of several names is told by the one that was gone by.
func TestOfFilesOfSeveralNames(t *testing.T) {
	s := newSite(t)
	a := s.dir(0, "a")
	b := s.dir(0, "b")
	f := s.file(a, "f")
	s.name(b, "g", f)
	s.name(0, "h", f)
	s.name(a, "again", f)
	l := s.link(0, "l", "b/g")
	s.name(b, "m", l)
	for _, who := range everybody {
		s.isOf(who, "/a/f", "/a/f", f)
		s.isOf(who, "/b/g", "/b/g", f)
		s.isOf(who, "/h", "/h", f)
		s.isOf(who, "b/../a/again", "/a/again", f)
		s.isOf(who, "/l", "/b/g", f)
		s.neither(who, "/b/m", api.ErrNoEnt)
		s.isRead(who, "/b/m", text("b/g"))
	}
}

// P9.1, P9.2
func TestOfLinks(t *testing.T) {
	s := newSite(t)
	x := s.dir(0, "x")
	y := s.dir(x, "y")
	b := s.file(x, "b")
	f := s.file(y, "f")
	s.link(0, "l", "/x/y")
	s.link(0, "file", "x/b")
	s.link(y, "up", "..")
	s.link(y, "here", ".")
	s.link(y, "top", "/")
	s.link(y, "back", "../../l/")
	s.link(0, "two", "l")
	s.link(0, "three", "two/.")
	s.link(0, "self", "self")
	s.link(0, "lost", "gone")
	s.link(0, "past", "x/b/")
	for _, who := range everybody {
		s.isOf(who, "/l/../b", "/x/b", b)
		for _, path := range []string{"/l", "l", "/l/", "/l/.", "/l/../y", "/two", "/three", "/two/", "/l/here", "/x/y/here/here/.", "/l/back", "/l/top/l"} {
			s.isOf(who, path, "/x/y", y)
		}
		for _, path := range []string{"/l/f", "/two/f", "/three/f", "/l/back/here/f", "/l/top/x/y/f", "/l/up/y/f"} {
			s.isOf(who, path, "/x/y/f", f)
		}
		for _, path := range []string{"/l/up", "/l/..", "/two/..", "/l/up/", "/three/up/."} {
			s.isOf(who, path, "/x", x)
		}
		for _, path := range []string{"/l/top", "/l/top/", "/l/up/..", "/x/y/top/.."} {
			s.isOf(who, path, "/", 0)
		}
		s.isOf(who, "/file", "/x/b", b)
		s.neither(who, "/file/", api.ErrNotDir)
		s.neither(who, "/file/x", api.ErrNotDir)
		s.neither(who, "/past", api.ErrNotDir)
		s.neither(who, "/self", api.ErrLoop)
		s.neither(who, "/self/x", api.ErrLoop)
		s.neither(who, "/lost", api.ErrNoEnt)
		s.neither(who, "/lost/", api.ErrNoEnt)
		s.neither(who, "/lost/x", api.ErrNoEnt)
	}
}

// P9.1
func TestOfChains(t *testing.T) {
	s := newSite(t)
	d := s.dir(0, "d")
	f := s.file(d, "f")
	for i := range api.MaxHops + 1 {
		s.link(0, fmt.Sprint("l", i+1), strings.Replace(fmt.Sprint("l", i), "l0", "d", 1))
	}
	for _, who := range everybody {
		for _, link := range []string{"l1", "l2", "l40"} {
			s.isOf(who, link, "/d", d)
			s.isOf(who, "/"+link+"/", "/d", d)
			s.isOf(who, "/"+link+"/f", "/d/f", f)
			s.onlyNear(who, link+"/gone", "/d/gone")
		}
		s.neither(who, "/l41", api.ErrLoop)
		s.neither(who, "/l41/f", api.ErrLoop)
		s.neither(who, "/l41/gone", api.ErrLoop)
		s.isRead(who, "/l41", text("l40"))
	}
}

// P9.1: who may not search, and what can't be read.
func TestOfWhatIsClosed(t *testing.T) {
	s := newSite(t)
	a := s.dir(0, "a")
	b := s.dir(a, "b")
	f := s.file(b, "f")
	s.link(b, "l", "f")
	s.mode(a, 0711)
	s.mode(b, 0644)
	for _, who := range everybody {
		s.isOf(who, "/a/b", "/a/b", b)
		s.isOf(who, "/a/b/", "/a/b", b)
	}
	for _, path := range []string{"/a/b/f", "/a/b/.", "/a/b/..", "/a/b/gone", "/a/b/gone/", "/a/b/l"} {
		s.neither(anybody, path, api.ErrAccess)
		s.isRead(anybody, path, fault(api.ErrAccess))
	}
	s.isOf(super, "/a/b/f", "/a/b/f", f)
	s.isOf(super, "/a/b/..", "/a", a)
	s.isOf(super, "/a/b/l", "/a/b/f", f)
	s.onlyNear(super, "/a/b/gone", "/a/b/gone")
	s.unreadable(b)
	s.isOf(super, "/a/b", "/a/b", b)
	s.isOf(super, "/a/b/.", "/a/b", b)
	s.isOf(super, "/a/b/..", "/a", a)
	for _, path := range []string{"/a/b/f", "/a/b/gone", "/a/b/gone/", "/a/b/l"} {
		s.neither(super, path, api.ErrIO)
		s.neither(anybody, path, api.ErrAccess)
		s.isRead(super, path, fault(api.ErrIO))
	}
	s.unreadable(0)
	for _, who := range everybody {
		s.isOf(who, "/", "/", 0)
		s.isOf(who, "..", "/", 0)
		s.neither(who, "/a", api.ErrIO)
		s.neither(who, "/gone", api.ErrIO)
	}
	s.mode(0, 0)
	s.isOf(anybody, "/", "/", 0)
	s.neither(anybody, "/.", api.ErrAccess)
	s.isOf(super, "/.", "/", 0)
}

// P9.1
func TestNearByTable(t *testing.T) {
	s := newSite(t)
	a := s.dir(0, "a")
	b := s.dir(a, "b")
	s.file(a, "f")
	s.link(0, "l", "a/b")
	s.link(b, "lost", "gone")
	s.link(b, "lostAbove", "../gone/")
	s.link(b, "toFile", "../f")
	s.link(b, "self", "self")
	long := strings.Repeat("n", api.MaxName)
	for _, who := range everybody {
		for path, want := range map[string]string{
			"gone":         "/gone",
			"/gone":        "/gone",
			"//gone":       "/gone",
			"gone/":        "/gone",
			"/gone//":      "/gone",
			"./gone":       "/gone",
			"../gone":      "/gone",
			"/a/../gone":   "/gone",
			"/a/gone":      "/a/gone",
			"a/gone":       "/a/gone",
			"/a//gone//":   "/a/gone",
			"/a/./gone":    "/a/gone",
			"/a/b/../gone": "/a/gone",
			"/a/b/gone":    "/a/b/gone",
			"/l/gone":      "/a/b/gone",
			"l//gone/":     "/a/b/gone",
			"/l/../gone":   "/a/gone",
			"/a/b/a":       "/a/b/a",
			"/a/...":       "/a/...",
			"/a/.b":        "/a/.b",
			"/a/..b":       "/a/..b",
			"/a/b.":        "/a/b.",
			"/a/F":         "/a/F",
			"/a/ff":        "/a/ff",
			"/a/l":         "/a/l",
			"/los":         "/los",
			"/lost":        "/lost",
			"a/\x00":       "/a/\x00",
			"a/ \xff\n":    "/a/ \xff\n",
			"/a/" + long:   "/a/" + long,
			"/l/" + long:   "/a/b/" + long,
		} {
			s.onlyNear(who, path, want)
		}
		for _, path := range []string{
			"", "/gone/.", "/gone/..", "gone/.", "gone/./", "/gone/../", "/gone/more", "/gone/./more", "/gone/../more", "/a/gone/more/",
			"/a/b/lost", "/a/b/lost/", "/a/b/lost//", "/l/lost", "/l/lost/more", "/l/lost/.", "/l/lostAbove", "/l/lostAbove/", "/l/lostAbove/x",
		} {
			s.neither(who, path, api.ErrNoEnt)
		}
		for _, path := range []string{"/a/f/gone", "/a/f/", "/a/f/.", "/a/f/..", "/a/f/../gone", "/l/toFile/gone", "/l/toFile/", "/a/f/gone/more"} {
			s.neither(who, path, api.ErrNotDir)
		}
		s.neither(who, "/l/self", api.ErrLoop)
		s.neither(who, "/l/self/gone", api.ErrLoop)
		for _, path := range []string{"/a/" + long + "n", long + "n", "/a/b/" + long + "n/"} {
			s.neither(who, path, api.ErrLong)
		}
	}
}

// P9.1: paths of as many bytes as there may be, and one more.
func TestLongPaths(t *testing.T) {
	s := newSite(t)
	a := s.dir(0, "a")
	s.link(a, "l", "/a")
	for _, name := range []string{"gone", "/gone", "a/gone", "/a/gone", "a", "a/l", "a/l/", "gone/", "gone/more"} {
		for _, who := range everybody {
			most := strings.Repeat("/", api.MaxPath-len(name)) + name
			short := "/" + name
			s.isNear(who, most, asAnswer(Near(s.f, who, short)))
			s.isRead(who, most, asAnswer(Read(s.f, who, short)))
			s.neither(who, "/"+most, api.ErrLong)
			s.isRead(who, "/"+most, fault(api.ErrLong))
		}
	}
	// Nothing ahead of the last name, but of as many bytes.
	path := "gone" + strings.Repeat("/", api.MaxPath-len("gone"))
	s.onlyNear(anybody, path, "/gone")
	s.neither(anybody, path+"/", api.ErrLong)
	s.neither(anybody, strings.Repeat("/", 1<<20), api.ErrLong)
}

// P9.1: a link leads to where the real path has more bytes than are walked.
func TestRealPathsLongerThanAreWalked(t *testing.T) {
	s := newSite(t)
	name := strings.Repeat("n", api.MaxName)
	at, want := 0, ""
	for range 15 {
		at = s.dir(at, name)
		want += "/" + name
	}
	s.link(0, "l", want)
	for range 3 {
		at = s.dir(at, name)
	}
	below := strings.Repeat("/"+name, 3)
	for _, who := range everybody {
		if told, id, err := Of(s.f, who, "l"+below); told != want+below || id != at || err != api.OK {
			t.Errorf("Of by %v of l and three names: %s, %d, %s", who, short(told), id, errorNames[err])
		}
		s.isNear(who, "l"+below, text(want+below))
		s.isNear(who, "l"+below+"/gone/", text(want+below+"/gone"))
		s.neither(who, want+below, api.ErrLong)
	}
}

func asAnswer(text string, err api.Errno) answer { return answer{text, err} }

// P9.1
func TestReadByTable(t *testing.T) {
	s := newSite(t)
	a := s.dir(0, "a")
	s.file(a, "f")
	s.link(0, "l", "a")
	s.link(a, "lost", "../gone//./x/")
	s.link(a, "two", "../l")
	s.link(a, "file", "f")
	s.link(a, "self", "self")
	s.link(a, "top", "/")
	s.link(a, "odd", " \n\xff'")
	s.link(a, "long", strings.Repeat("/", api.MaxPath))
	for _, who := range everybody {
		for path, want := range map[string]string{
			"l":         "a",
			"/l":        "a",
			"//./l":     "a",
			"/a/../l":   "a",
			"/a/lost":   "../gone//./x/",
			"/l/lost":   "../gone//./x/",
			"/a/two":    "../l",
			"/l/two":    "../l",
			"/a/file":   "f",
			"/a/self":   "self",
			"/l/top":    "/",
			"/l/top/l":  "a",
			"/l/odd":    " \n\xff'",
			"/a/./long": strings.Repeat("/", api.MaxPath),
		} {
			s.isRead(who, path, text(want))
		}
		for _, path := range []string{"/", ".", "..", "/a", "/a/", "/a/f", "/l/f", "/l/", "/l/.", "/a/two/", "/l/top/", "/l/top/.", "/l/two/f"} {
			s.isRead(who, path, fault(api.ErrArg))
		}
		for _, path := range []string{"", "/gone", "/a/lost/", "/l/gone", "/gone/l"} {
			s.isRead(who, path, fault(api.ErrNoEnt))
		}
		for _, path := range []string{"/a/file/", "/a/f/", "/a/f/l", "/l/file/x"} {
			s.isRead(who, path, fault(api.ErrNotDir))
		}
		s.isRead(who, "/a/self/", fault(api.ErrLoop))
		s.isRead(who, "/a/self/x", fault(api.ErrLoop))
		s.isRead(who, "/"+strings.Repeat("n", api.MaxName+1), fault(api.ErrLong))
	}
}

// P9.1
func TestReadOfWhatCanNotBeRead(t *testing.T) {
	s := newSite(t)
	a := s.dir(0, "a")
	l := s.link(0, "l", "a")
	f := s.file(0, "f")
	s.link(a, "in", "x")
	for _, id := range []int{l, f} {
		s.unreadable(id)
	}
	for _, who := range everybody {
		s.isRead(who, "/l", fault(api.ErrIO))
		s.isRead(who, "/l/", fault(api.ErrIO))
		s.isRead(who, "/l/in", fault(api.ErrIO))
		s.isRead(who, "/a/in", text("x"))
		// That it is no link is asked ahead of that.
		s.isRead(who, "/f", fault(api.ErrArg))
		s.neither(who, "/l", api.ErrIO)
		s.neither(who, "/l/gone", api.ErrIO)
	}
	s.unreadable(a)
	for _, who := range everybody {
		s.isRead(who, "/a/in", fault(api.ErrIO))
		s.isRead(who, "/a", fault(api.ErrArg))
	}
	// A link's own mode closes nothing.
	open := newSite(t)
	open.mode(open.link(0, "l", "a"), 0)
	open.isRead(anybody, "/l", text("a"))
}
