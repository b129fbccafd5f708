package path

import (
	"fmt"
	"math"
	"slices"
	"strings"
	"testing"

	"domesday/api"
)

// P8.1
func TestNamesByTable(t *testing.T) {
	for _, c := range []struct {
		path         string
		names        []string
		begins, ends bool
	}{
		{"", nil, false, false},
		{"/", nil, true, true},
		{"////", nil, true, true},
		{"a", []string{"a"}, false, false},
		{"/a", []string{"a"}, true, false},
		{"a/", []string{"a"}, false, true},
		{"/a/", []string{"a"}, true, true},
		{"///a", []string{"a"}, true, false},
		{"a///", []string{"a"}, false, true},
		{"a/b", []string{"a", "b"}, false, false},
		{"a///b", []string{"a", "b"}, false, false},
		{"//a//bc///d//", []string{"a", "bc", "d"}, true, true},
		{".", []string{"."}, false, false},
		{"/./..", []string{".", ".."}, true, false},
		{"../.../.", []string{"..", "...", "."}, false, false},
		{"a a/ \t/\n", []string{"a a", " \t", "\n"}, false, false},
		{`a\/b`, []string{`a\`, "b"}, false, false},
		{"\x00/\xff/\xc3", []string{"\x00", "\xff", "\xc3"}, false, false},
		{"\xc3/\xa4", []string{"\xc3", "\xa4"}, false, false},
		{"ä/∕/／", []string{"ä", "∕", "／"}, false, false},
	} {
		names, begins, ends := Names(c.path)
		if !slices.Equal(names, c.names) || begins != c.begins || ends != c.ends {
			t.Errorf("Names(%q): %q, %v, %v", c.path, names, begins, ends)
		}
	}
}

// P8.1
func TestNamesOfAllShortPaths(t *testing.T) {
	const letters = "/a.\x00\xff"
	for size := 0; size <= 6; size++ {
		count := int(math.Pow(float64(len(letters)), float64(size)))
		for i := range count {
			path := make([]byte, size)
			for at := range path {
				path[at] = letters[i%len(letters)]
				i /= len(letters)
			}
			namesAsBytesTell(t, string(path))
		}
	}
}

// namesAsBytesTell holds Names against what its bytes, one by one, tell.
func namesAsBytesTell(t *testing.T, path string) {
	t.Helper()
	var want []string
	name := ""
	for i := range len(path) + 1 {
		switch {
		case i < len(path) && path[i] != '/':
			name += path[i : i+1]
		case name != "":
			want = append(want, name)
			name = ""
		}
	}
	begins := path != "" && path[0] == '/'
	ends := path != "" && path[len(path)-1] == '/'
	if names, b, e := Names(path); !slices.Equal(names, want) || b != begins || e != ends {
		t.Fatalf("Names(%q): %q, %v, %v, want %q", path, names, b, e, want)
	}
}

// P8.1
func TestNamesOfLongPaths(t *testing.T) {
	for _, size := range []int{api.MaxName, api.MaxName + 1, api.MaxPath + 1, 1 << 20} {
		name := strings.Repeat("n", size)
		if names, begins, ends := Names("/" + name + "//" + name + "/"); !slices.Equal(names, []string{name, name}) || !begins || !ends {
			t.Errorf("two names of %d bytes: %d names, %v, %v", size, len(names), begins, ends)
		}
		if names, begins, ends := Names(strings.Repeat("/", size)); len(names) != 0 || !begins || !ends {
			t.Errorf("%d times /: %d names, %v, %v", size, len(names), begins, ends)
		}
		if names, begins, ends := Names(strings.Repeat("a/", size)); len(names) != size || begins || !ends {
			t.Errorf("%d times a/: %d names, %v, %v", size, len(names), begins, ends)
		}
	}
}

// P8.1
func TestNamesAreNewEachTime(t *testing.T) {
	first, _, _ := Names("/a/b")
	first[0] = "changed"
	if again, _, _ := Names("/a/b"); !slices.Equal(again, []string{"a", "b"}) {
		t.Errorf("Names again: %q", again)
	}
}

// P8.1
func TestWalkOfTheRoot(t *testing.T) {
	s := newSite(t)
	s.both("", fault(api.ErrNoEnt))
	for _, path := range []string{
		"/", "//", "//////", ".", "./", "/.", "/./", "././.", "..", "../", "/..", "/../..", "//..//.//..//",
	} {
		s.both(path, bare(0, 0))
	}
	for _, path := range []string{"a", "/a", "/a/", "...", "/...", "/.a", "/..a", " ", "\x00", "/\xff", "-"} {
		s.both(path, fault(api.ErrNoEnt))
	}
}

// P8.1
func TestWalkByNames(t *testing.T) {
	s := newSite(t)
	a := s.dir(0, "a")
	b := s.dir(a, "b")
	c := s.file(b, "c")
	f := s.file(a, "f")
	odd := s.file(a, "\xff \n'")
	s.name(0, "again", c)
	for _, x := range []struct {
		path string
		want answer
	}{
		{"/a", entry(a, 0, "a", 0)},
		{"a", entry(a, 0, "a", 0)},
		{"a/", entry(a, 0, "a", 0)},
		{"/a//", entry(a, 0, "a", 0)},
		{"/a/b", entry(b, a, "b", 0)},
		{"a/b/c", entry(c, b, "c", 0)},
		{"again", entry(c, 0, "again", 0)},
		{"/a/f", entry(f, a, "f", 0)},
		{"/a/\xff \n'", entry(odd, a, "\xff \n'", 0)},
		{"/a/.", bare(a, 0)},
		{"/a/./", bare(a, 0)},
		{"/a/./b", entry(b, a, "b", 0)},
		{"/a/b/..", bare(a, 0)},
		{"/a/b/../", bare(a, 0)},
		{"/a/b/../f", entry(f, a, "f", 0)},
		{"/a/b/../..", bare(0, 0)},
		{"/a/b/../../..", bare(0, 0)},
		{"../../a/./../a/b/./c", entry(c, b, "c", 0)},
		{"/A", fault(api.ErrNoEnt)},
		{"/a/", entry(a, 0, "a", 0)},
		{"/a/c", fault(api.ErrNoEnt)},
		{"/a/x/..", fault(api.ErrNoEnt)},
		{"/a/b/c/", fault(api.ErrNotDir)},
		{"/a/b/c///", fault(api.ErrNotDir)},
		{"/a/b/c/.", fault(api.ErrNotDir)},
		{"/a/b/c/..", fault(api.ErrNotDir)},
		{"/a/b/c/x", fault(api.ErrNotDir)},
		{"/again/", fault(api.ErrNotDir)},
		{"/b/c/x", fault(api.ErrNoEnt)},
		{"/a/\xff \n", fault(api.ErrNoEnt)},
	} {
		s.both(x.path, x.want)
	}
}

// P8.1: the questions' order, and their bounds.
func TestWalkOfLongPaths(t *testing.T) {
	s := newSite(t)
	name := strings.Repeat("n", api.MaxName)
	a := s.dir(0, "a")
	long := s.file(a, name)
	gone := strings.Repeat("m", api.MaxName)
	s.both("/a/"+name, entry(long, a, name, 0))
	s.both("/a/"+gone, fault(api.ErrNoEnt))
	s.both("/a/"+name+"n", fault(api.ErrLong))
	s.both("/a/"+gone+"/"+name+"n", fault(api.ErrNoEnt))
	s.both("/a/"+name+"n/gone", fault(api.ErrLong))
	s.both("/a/"+name+"/"+name+"n", fault(api.ErrNotDir))
	s.both("/a/"+strings.Repeat(".", api.MaxName), fault(api.ErrNoEnt))
	s.both("/a/"+strings.Repeat(".", api.MaxName+1), fault(api.ErrLong))

	s.both(strings.Repeat("/", api.MaxPath), bare(0, 0))
	s.both(strings.Repeat("/", api.MaxPath+1), fault(api.ErrLong))
	s.both(strings.Repeat("/", api.MaxPath-1)+"a", entry(a, 0, "a", 0))
	s.both(strings.Repeat("/", api.MaxPath)+"a", fault(api.ErrLong))
	s.both(strings.Repeat("./", api.MaxPath/2), bare(0, 0))
	s.both(strings.Repeat("./", api.MaxPath/2)+".", fault(api.ErrLong))
	s.both("gone"+strings.Repeat("/", api.MaxPath-4), fault(api.ErrNoEnt))
	s.both("gone"+strings.Repeat("/", api.MaxPath-3), fault(api.ErrLong))
	s.both(strings.Repeat("x", api.MaxPath), fault(api.ErrLong))
	s.both(strings.Repeat("x", 1<<20), fault(api.ErrLong))

	s.mode(0, 0)
	s.walks(anybody, name+"n", true, fault(api.ErrAccess))
	s.walks(api.Cred{}, name+"n", true, fault(api.ErrLong))
	s.unreadable(a)
	s.walks(api.Cred{}, "/a/"+name, true, fault(api.ErrIO))
	s.walks(api.Cred{}, "/a/"+name+"n", true, fault(api.ErrLong))
	s.walks(anybody, strings.Repeat("/", api.MaxPath+1), true, fault(api.ErrLong))
}

// P8.1: who may search a directory.
func TestWalkOfClosedDirectories(t *testing.T) {
	owner, member, stranger := api.Cred{Uid: 5, Gid: 88}, api.Cred{Uid: 77, Gid: 6}, anybody
	both := api.Cred{Uid: 5, Gid: 6}
	for _, c := range []struct {
		mode int
		may  []api.Cred
		not  []api.Cred
	}{
		{0755, []api.Cred{owner, member, stranger, both, {}}, nil},
		{0111, []api.Cred{owner, member, stranger, both, {}}, nil},
		{0000, []api.Cred{{}}, []api.Cred{owner, member, stranger, both}},
		{0666, []api.Cred{{}}, []api.Cred{owner, member, stranger, both}},
		{07666, []api.Cred{{}}, []api.Cred{owner, member, stranger, both}},
		{0700, []api.Cred{owner, both, {}}, []api.Cred{member, stranger}},
		{0100, []api.Cred{owner, both, {}}, []api.Cred{member, stranger}},
		{0010, []api.Cred{member, {}}, []api.Cred{owner, stranger, both}},
		{0001, []api.Cred{stranger, {}}, []api.Cred{owner, member, both}},
		{0677, []api.Cred{member, stranger, {}}, []api.Cred{owner, both}},
		{0767, []api.Cred{owner, both, stranger, {}}, []api.Cred{member}},
		{0776, []api.Cred{owner, both, member, {}}, []api.Cred{stranger}},
	} {
		s := newSite(t)
		d := s.dir(0, "d")
		f := s.file(d, "f")
		s.mode(d, c.mode)
		s.mode(f, 0)
		s.owner(d, 5, 6)
		for _, who := range c.may {
			s.walks(who, "/d/f", true, entry(f, d, "f", 0))
			s.walks(who, "/d/.", true, bare(d, 0))
			s.walks(who, "/d/..", true, bare(0, 0))
			s.walks(who, "/d/gone", true, fault(api.ErrNoEnt))
			s.walks(who, "/d/f/gone", true, fault(api.ErrNotDir))
		}
		for _, who := range c.not {
			for _, path := range []string{"/d/f", "/d/.", "/d/..", "/d/../gone", "/d/gone", "/d/f/gone", "d/." + strings.Repeat("/", 9)} {
				s.walks(who, path, true, fault(api.ErrAccess))
			}
		}
		for _, who := range append(c.may, c.not...) {
			s.walks(who, "/d", true, entry(d, 0, "d", 0))
			s.walks(who, "/d/", true, entry(d, 0, "d", 0))
		}
	}
}

// P8.1: the root may be closed too, and numbers that are nobody's ask.
func TestWalkOfAClosedRoot(t *testing.T) {
	s := newSite(t)
	a := s.dir(0, "a")
	s.mode(0, 0700)
	s.owner(0, 5, 6)
	for _, who := range []api.Cred{anybody, {Uid: 77, Gid: 6}, {Uid: -1}, {Uid: math.MinInt, Gid: math.MinInt}, {Uid: math.MaxInt, Gid: math.MaxInt}} {
		s.walks(who, "/", true, bare(0, 0))
		for _, path := range []string{"/a", ".", "..", "/gone", "/a/gone"} {
			s.walks(who, path, true, fault(api.ErrAccess))
		}
		s.walks(who, "", true, fault(api.ErrNoEnt))
	}
	for _, who := range []api.Cred{{}, {Uid: 5, Gid: 7}, {Gid: math.MinInt}} {
		s.walks(who, "/a", true, entry(a, 0, "a", 0))
	}
}

// P8.1
func TestWalkOfWhatCantBeRead(t *testing.T) {
	s := newSite(t)
	d := s.dir(0, "d")
	e := s.dir(d, "e")
	f := s.file(0, "f")
	l := s.link(0, "l", "d")
	s.both("/d/e", entry(e, d, "e", 0))
	s.unreadable(d)
	s.unreadable(f)
	s.unreadable(l)
	s.both("/d", entry(d, 0, "d", 0))
	s.both("/d/", entry(d, 0, "d", 0))
	s.both("/d/.", bare(d, 0))
	s.both("/d/..", bare(0, 0))
	s.both("/d/../f", entry(f, 0, "f", 0))
	s.both("/d/e", fault(api.ErrIO))
	s.both("/d/gone", fault(api.ErrIO))
	s.both("/f/gone", fault(api.ErrNotDir))
	s.last("/l", fault(api.ErrIO), entry(l, 0, "l", 0))
	s.both("/l/", fault(api.ErrIO))
	s.both("/l/.", fault(api.ErrIO))
	s.both("/l/e", fault(api.ErrIO))
	s.mode(d, 0)
	s.walks(anybody, "/d/e", true, fault(api.ErrAccess))
	s.walks(api.Cred{}, "/d/e", true, fault(api.ErrIO))
	s.unreadable(0)
	s.both("/d", fault(api.ErrIO))
	s.both("/gone", fault(api.ErrIO))
	s.both("/..", bare(0, 0))
}

// P8.1: what covers what, at each step.
func TestWalkOfDevices(t *testing.T) {
	s := newSite(t)
	a := s.dir(0, "a")
	m := s.dir(a, "m")
	old := s.dir(m, "old")
	s.file(m, "f")
	l := s.link(a, "l", "m/in")
	s.both("/a/m/old", entry(old, m, "old", 0))

	first := s.cover(m)
	in := s.dir(first, "in")
	f := s.file(in, "f")
	s.link(first, "up", "..")
	s.link(first, "top", "/a/m/in/")
	s.both("/a/m", entry(first, a, "m", 0))
	s.both("/a/m/", entry(first, a, "m", 0))
	s.both("/a/m/.", bare(first, 0))
	s.both("/a/m/..", bare(a, 0))
	s.both("/a/m/../m/../..", bare(0, 0))
	s.both("/a/m/old", fault(api.ErrNoEnt))
	s.both("/a/m/f", fault(api.ErrNoEnt))
	s.both("/a/m/in", entry(in, first, "in", 0))
	s.both("/a/m/in/f", entry(f, in, "f", 0))
	s.both("/a/m/in/..", bare(first, 0))
	s.both("/a/m/in/../in/f", entry(f, in, "f", 0))
	s.both("/a/m/in/../../m", entry(first, a, "m", 0))
	s.last("/a/l", entry(in, first, "in", 1), entry(l, a, "l", 0))
	s.both("/a/l/f", entry(f, in, "f", 1))
	s.both("/a/m/up/", bare(a, 1))
	s.both("/a/m/up/m/in", entry(in, first, "in", 1))
	s.both("/a/m/top/f", entry(f, in, "f", 1))

	second := s.cover(in)
	deep := s.dir(second, "deep")
	s.both("/a/m/in", entry(second, first, "in", 0))
	s.both("/a/m/in/f", fault(api.ErrNoEnt))
	s.both("/a/m/in/deep", entry(deep, second, "deep", 0))
	s.both("/a/m/in/deep/..", bare(second, 0))
	s.both("/a/m/in/deep/../..", bare(first, 0))
	s.both("/a/m/in/deep/../../..", bare(a, 0))
	s.both("/a/m/top/", entry(second, first, "in", 1))
	s.both("/a/l/..", bare(first, 1))

	third := s.cover(a)
	s.both("/a", entry(third, 0, "a", 0))
	s.both("/a/.", bare(third, 0))
	s.both("/a/..", bare(0, 0))
	s.both("/a/m", fault(api.ErrNoEnt))
}

// P8.1: of a directory that is covered neither who may search it, nor that it
// can't be read, is asked; of the one that covers it both are.
func TestWalkAsksWhatCovers(t *testing.T) {
	s := newSite(t)
	a := s.dir(0, "a")
	first := s.cover(a)
	f := s.file(first, "f")
	s.mode(a, 0)
	s.unreadable(a)
	s.both("/a/f", entry(f, first, "f", 0))
	s.mode(first, 0)
	s.walks(anybody, "/a/f", true, fault(api.ErrAccess))
	s.walks(api.Cred{}, "/a/f", true, entry(f, first, "f", 0))
	s.mode(first, 0755)
	s.unreadable(first)
	s.both("/a/f", fault(api.ErrIO))
}

// P8.1
func TestWalkOfLinks(t *testing.T) {
	s := newSite(t)
	a := s.dir(0, "a")
	b := s.dir(a, "b")
	f := s.file(a, "f")
	l := s.link(0, "l", "a")
	file := s.link(0, "file", "a/f")
	top := s.link(b, "top", "/")
	tops := s.link(b, "tops", "///")
	up := s.link(b, "up", "..")
	here := s.link(b, "here", ".")
	rel := s.link(b, "rel", "../f")
	abs := s.link(b, "abs", "//a//f")
	lost := s.link(b, "lost", "gone")
	past := s.link(b, "past", "../f/gone")
	two := s.link(b, "two", "up/b/rel")
	s.both("/l/b", entry(b, a, "b", 1))
	s.both("l/b/", entry(b, a, "b", 1))
	s.both("/l/f", entry(f, a, "f", 1))
	s.both("/l/gone", fault(api.ErrNoEnt))
	s.both("/l/.", bare(a, 1))
	s.both("/l/..", bare(0, 1))
	s.last("/l", entry(a, 0, "a", 1), entry(l, 0, "l", 0))
	s.both("/l/", entry(a, 0, "a", 1))
	s.both("/l//", entry(a, 0, "a", 1))
	s.last("/file", entry(f, a, "f", 1), entry(file, 0, "file", 0))
	s.both("/file/", fault(api.ErrNotDir))
	s.both("/file/.", fault(api.ErrNotDir))
	s.both("/file/x", fault(api.ErrNotDir))
	s.last("/a/b/top", bare(0, 1), entry(top, b, "top", 0))
	s.both("/a/b/top/", bare(0, 1))
	s.last("/a/b/tops", bare(0, 1), entry(tops, b, "tops", 0))
	s.both("/a/b/top/a/f", entry(f, a, "f", 1))
	s.both("/a/b/tops/l/b", entry(b, a, "b", 2))
	s.both("/a/b/top/..", bare(0, 1))
	s.last("/l/b/up", bare(a, 2), entry(up, b, "up", 1))
	s.both("/l/b/up/f", entry(f, a, "f", 2))
	s.last("/a/b/here", bare(b, 1), entry(here, b, "here", 0))
	s.both("/a/b/here/here/here/", bare(b, 3))
	s.both("/a/b/here/here/here/..", bare(a, 3))
	s.last("/a/b/rel", entry(f, a, "f", 1), entry(rel, b, "rel", 0))
	s.both("/a/b/rel/", fault(api.ErrNotDir))
	s.last("/a/b/abs", entry(f, a, "f", 1), entry(abs, b, "abs", 0))
	s.last("/a/b/lost", fault(api.ErrNoEnt), entry(lost, b, "lost", 0))
	s.both("/a/b/lost/", fault(api.ErrNoEnt))
	s.last("/a/b/past", fault(api.ErrNotDir), entry(past, b, "past", 0))
	s.last("/l/b/two", entry(f, a, "f", 4), entry(two, b, "two", 1))
}

// P8.1: a link whose text ends with a /.
func TestWalkOfLinksThatEndWithASlash(t *testing.T) {
	s := newSite(t)
	a := s.dir(0, "a")
	f := s.file(a, "f")
	d := s.link(0, "d", "a/")
	e := s.link(0, "e", "/a/f//")
	more := s.link(0, "more", "d")
	chain := s.link(0, "chain", "plain/")
	plain := s.link(0, "plain", "a/f")
	lost := s.link(0, "lost", "gone/")
	s.last("/d", entry(a, 0, "a", 1), entry(d, 0, "d", 0))
	s.both("/d/", entry(a, 0, "a", 1))
	// In the middle the / is one more of them.
	s.both("/d/f", entry(f, a, "f", 1))
	s.both("/d/.", bare(a, 1))
	s.both("/d/..", bare(0, 1))
	s.last("/e", fault(api.ErrNotDir), entry(e, 0, "e", 0))
	s.both("/e/", fault(api.ErrNotDir))
	s.both("/e/..", fault(api.ErrNotDir))
	s.last("/more", entry(a, 0, "a", 2), entry(more, 0, "more", 0))
	s.both("/more/f", entry(f, a, "f", 2))
	// The / that comes behind plain stays behind what plain goes to.
	s.last("/plain", entry(f, a, "f", 1), entry(plain, 0, "plain", 0))
	s.both("/plain/", fault(api.ErrNotDir))
	s.last("/chain", fault(api.ErrNotDir), entry(chain, 0, "chain", 0))
	s.last("/lost", fault(api.ErrNoEnt), entry(lost, 0, "lost", 0))
	s.both("/d/../d/../d/f", entry(f, a, "f", 3))
	s.both("/d/../plain/", fault(api.ErrNotDir))
	s.last("/d/../plain", entry(f, a, "f", 2), entry(plain, 0, "plain", 1))
}

// P8.1: links that come back to themselves.
func TestWalkOfCircles(t *testing.T) {
	s := newSite(t)
	d := s.dir(0, "d")
	self := s.link(0, "self", "self")
	below := s.link(0, "below", "below/x")
	slash := s.link(0, "slash", "/slash/")
	x := s.link(0, "x", "d/y")
	y := s.link(d, "y", "../x")
	grows := s.link(0, "grows", "grows"+strings.Repeat("/.", api.MaxPath/2-3))
	s.last("/self", fault(api.ErrLoop), entry(self, 0, "self", 0))
	s.both("/self/", fault(api.ErrLoop))
	s.both("/self/gone", fault(api.ErrLoop))
	s.last("/below", fault(api.ErrLoop), entry(below, 0, "below", 0))
	s.last("/slash", fault(api.ErrLoop), entry(slash, 0, "slash", 0))
	s.last("/x", fault(api.ErrLoop), entry(x, 0, "x", 0))
	s.last("/d/y", fault(api.ErrLoop), entry(y, d, "y", 0))
	s.last("/grows", fault(api.ErrLoop), entry(grows, 0, "grows", 0))
	s.unreadable(self)
	s.both("/self/", fault(api.ErrIO))
}

// P8.1: as many links as may be followed, and one more.
func TestWalkOfChains(t *testing.T) {
	s := newSite(t)
	d := s.dir(0, "d")
	f := s.file(d, "f")
	link := func(i int) string { return fmt.Sprint("l", i) }
	ids := []int{0, s.link(0, link(1), "d")}
	for i := 2; i <= api.MaxHops+2; i++ {
		ids = append(ids, s.link(0, link(i), link(i-1)))
	}
	for i := 1; i <= api.MaxHops; i++ {
		s.last("/"+link(i), entry(d, 0, "d", i), entry(ids[i], 0, link(i), 0))
		s.both("/"+link(i)+"/", entry(d, 0, "d", i))
		s.both("/"+link(i)+"/f", entry(f, d, "f", i))
		s.both("/"+link(i)+"/gone", fault(api.ErrNoEnt))
	}
	for i := api.MaxHops + 1; i <= api.MaxHops+2; i++ {
		s.last("/"+link(i), fault(api.ErrLoop), entry(ids[i], 0, link(i), 0))
		s.both("/"+link(i)+"/", fault(api.ErrLoop))
		s.both("/"+link(i)+"/f", fault(api.ErrLoop))
	}
	// All that are followed count, wherever they stand.
	most := "/" + strings.Repeat("l1/../", api.MaxHops)
	s.both(most, bare(0, api.MaxHops))
	s.both(most+"d/f", entry(f, d, "f", api.MaxHops))
	s.last(most+"l1", fault(api.ErrLoop), entry(ids[1], 0, "l1", api.MaxHops))
	s.both(most+"l1/", fault(api.ErrLoop))
	s.both(most+"l1/f", fault(api.ErrLoop))
	s.both(most+"gone", fault(api.ErrNoEnt))
	s.both("/l30/../l10/", entry(d, 0, "d", api.MaxHops))
	s.both("/l30/../l11/", fault(api.ErrLoop))
	// That there are too many is asked ahead of what a link tells.
	s.unreadable(ids[1])
	s.both("/l40/", fault(api.ErrIO))
	s.both("/l41/", fault(api.ErrLoop))
	s.both("/l42/", fault(api.ErrLoop))
}

// P8.1: a link's text of as many bytes as there may be, though not so many
// may be left of a path, and names of it that are too long.
func TestWalkOfLongLinks(t *testing.T) {
	s := newSite(t)
	d := s.dir(0, "d")
	f := s.file(d, "f")
	s.link(0, "long", strings.Repeat("./", api.MaxPath/2-1)+"d/")
	s.link(0, "name", "d/"+strings.Repeat("n", api.MaxName+1))
	path := strings.Repeat("long/../", 39) + "long" + strings.Repeat("/", 1000) + "f"
	s.both(path, entry(f, d, "f", 40))
	s.walks(anybody, "name", true, fault(api.ErrLong))
	s.walks(anybody, "name/..", true, fault(api.ErrLong))
}

// P8.1: a closed directory behind a link is asked as any other.
func TestWalkOfLinksIntoClosedDirectories(t *testing.T) {
	s := newSite(t)
	d := s.dir(0, "d")
	in := s.dir(d, "in")
	f := s.file(in, "f")
	l := s.link(0, "l", "d/in")
	back := s.link(d, "back", "../l")
	s.mode(l, 0)
	s.mode(d, 0700)
	s.owner(d, 5, 6)
	s.walks(anybody, "/l", true, fault(api.ErrAccess))
	s.walks(anybody, "/l", false, entry(l, 0, "l", 0))
	s.walks(anybody, "/d/back", false, fault(api.ErrAccess))
	s.walks(api.Cred{Uid: 5}, "/l/f", true, entry(f, in, "f", 1))
	s.walks(api.Cred{Uid: 5}, "/d/back", false, entry(back, d, "back", 0))
	s.walks(api.Cred{Uid: 5}, "/d/back", true, entry(in, d, "in", 2))
}
