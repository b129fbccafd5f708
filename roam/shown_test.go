package roam

import (
	"math"
	"slices"
	"strings"
	"testing"

	"domesday/api"
	"domesday/vfs"
)

// P12.1
func TestShownOfWhatIsNoDirectory(t *testing.T) {
	s := newSite(t)
	a := s.dir(0, "a")
	others := []int{s.file(0, "f"), s.link(0, "l", "a"), s.link(0, "top", "/"), s.link(0, "gone", "gone"), s.file(a, "f")}
	count := s.f.Count()
	for _, who := range everybody {
		for _, id := range others {
			s.notShown(who, id, api.ErrNotDir)
		}
		for _, id := range []int{count, count + 1, api.MaxNodes, math.MaxInt, -1, -2, math.MinInt} {
			s.notShown(who, id, api.ErrNoEnt)
		}
	}
	// That it is none is asked ahead of all else.
	for _, id := range others {
		if id != others[1] {
			s.mode(id, 0)
		}
		s.unreadable(id)
	}
	for _, who := range everybody {
		for _, id := range others {
			s.notShown(who, id, api.ErrNotDir)
		}
	}
}

// P12.1
func TestShownOfEmptyDirectories(t *testing.T) {
	s := newSite(t)
	s.isShown(anybody, 0, true)
	s.isShown(anybody, 0, false)
	a := s.dir(0, "a")
	for _, who := range everybody {
		for _, all := range []bool{false, true} {
			s.isShown(who, a, all)
			s.isShown(who, 0, all, entry("a", a))
		}
	}
	empty := &vfs.FS{}
	if got, err := Shown(empty, super, 0, true); len(got) > 0 || err != api.ErrNoEnt {
		t.Errorf("Shown of no file system's root: %v, %s", got, errorNames[err])
	}
}

// P12.1: only a directory's own entries are shown, not those below.
func TestShownOfDirectoriesInDirectories(t *testing.T) {
	s := newSite(t)
	b := s.dir(0, "b")
	f := s.file(b, "f")
	a := s.dir(b, "a")
	l := s.link(b, "l", "../b")
	deep := s.file(a, "deep")
	s.name(0, "f", f)
	s.name(b, "again", f)
	s.name(0, "l", l)
	for _, all := range []bool{false, true} {
		s.isShown(anybody, 0, all, entry("b", b), entry("f", f), entry("l", l))
		s.isShown(anybody, b, all, entry("a", a), entry("again", f), entry("f", f), entry("l", l))
		s.isShown(anybody, a, all, entry("deep", deep))
	}
}

// P12.1: each list of names is shown by its bytes, in whatever order they
// were made.
func TestShownByNames(t *testing.T) {
	for _, sorted := range [][]string{
		{"a", "b", "c", "d"},
		{"A", "B", "Z", "_", "a", "b", "z"},
		{"a", "a ", "a!", "a-", "a0", "aA", "a_", "aa", "aaa", "ab"},
		{"1", "10", "100", "2", "20", "9"},
		{"\x01", "\n", " ", "!", "~", "\x7f", "\x80", "\xc3", "\xc3\xa9", "\xe3\x81\x82", "\xff", "\xff\xff"},
		{"a", "a\x01", "a\x7f", "a\xff", "a\xff\xff", "b"},
		{"e1.2", "e10", "e1a", "e9"},
		{strings.Repeat("n", api.MaxName-1), strings.Repeat("n", api.MaxName), "o"},
	} {
		for turn := range sorted {
			s := newSite(t)
			made := slices.Concat(sorted[turn:], sorted[:turn])
			if turn%2 == 1 {
				slices.Reverse(made)
			}
			ids := map[string]int{}
			for i, name := range made {
				if i%2 == 0 {
					ids[name] = s.dir(0, name)
				} else {
					ids[name] = s.file(0, name)
				}
			}
			var want []api.Entry
			for _, name := range sorted {
				want = append(want, entry(name, ids[name]))
			}
			s.isShown(anybody, 0, false, want...)
			s.isShown(anybody, 0, true, want...)
		}
	}
}

// P12.1
func TestShownOfPoints(t *testing.T) {
	s := newSite(t)
	only := s.dir(0, "only")
	point := s.file(only, ".p")
	s.isShown(anybody, only, false)
	s.isShown(anybody, only, true, entry(".p", point))
	d := s.dir(0, "d")
	z := s.file(d, "z.")
	three := s.dir(d, "...")
	a := s.file(d, "a.b")
	h := s.link(d, ".h", "z.")
	minus := s.file(d, "-")
	back := s.file(d, "..a")
	zero := s.file(d, "0")
	s.isShown(anybody, d, false, entry("-", minus), entry("0", zero), entry("a.b", a), entry("z.", z))
	s.isShown(anybody, d, true,
		entry("-", minus), entry("...", three), entry("..a", back), entry(".h", h),
		entry("0", zero), entry("a.b", a), entry("z.", z))
	// What stands below a point isn't hidden by that.
	below := s.file(three, "f")
	s.isShown(anybody, three, false, entry("f", below))
	s.isShown(anybody, three, true, entry("f", below))
}

// P12.1: a device's first shows what stands in the device, and what it covers
// what stood there.
func TestShownOfDevices(t *testing.T) {
	s := newSite(t)
	a := s.dir(0, "a")
	before := s.file(a, "before")
	device := s.cover(a)
	s.isShown(anybody, device, true)
	inside := s.dir(device, "inside")
	late := s.file(a, "late")
	// An entry has the number under which its node was built.
	s.isShown(anybody, 0, true, entry("a", a))
	s.isShown(anybody, a, true, entry("before", before), entry("late", late))
	s.isShown(anybody, device, true, entry("inside", inside))
	second := s.cover(inside)
	deep := s.file(second, "deep")
	s.isShown(anybody, device, true, entry("inside", inside))
	s.isShown(anybody, inside, true)
	s.isShown(anybody, second, true, entry("deep", deep))
	// Each of both has its own mode, and is read by itself.
	s.mode(a, 0)
	s.unreadable(second)
	s.notShown(anybody, a, api.ErrAccess)
	s.isShown(super, a, true, entry("before", before), entry("late", late))
	s.isShown(anybody, device, true, entry("inside", inside))
	s.isShown(anybody, inside, true)
	s.notShown(anybody, second, api.ErrIO)
}

// P12.1: by all modes, whoever asks.
func TestShownByModes(t *testing.T) {
	s := newSite(t)
	a := s.dir(0, "a")
	f := s.file(a, "f")
	s.owner(a, 5, 6)
	for mode := range 010000 {
		s.mode(a, mode)
		for _, x := range []struct {
			who   api.Cred
			digit int
		}{
			{api.Cred{Uid: 5, Gid: 6}, mode / 0100 % 010},
			{api.Cred{Uid: 5, Gid: 7}, mode / 0100 % 010},
			{api.Cred{Uid: 7, Gid: 6}, mode / 010 % 010},
			{api.Cred{Uid: 7, Gid: 7}, mode % 010},
			{api.Cred{Uid: 6, Gid: 5}, mode % 010},
			{api.Cred{Uid: -5, Gid: -6}, mode % 010},
			{api.Cred{Uid: 7, Gid: 0}, mode % 010},
			{api.Cred{Uid: 0, Gid: 7}, 7},
			{api.Cred{Uid: 0, Gid: 6}, 7},
		} {
			if x.digit == 5 || x.digit == 7 {
				s.isShown(x.who, a, false, entry("f", f))
			} else {
				s.notShown(x.who, a, api.ErrAccess)
			}
		}
	}
}

// P12.1: of a directory that is closed and can't be read, ErrAccess is first.
func TestShownWhereItCanNotBeRead(t *testing.T) {
	s := newSite(t)
	a := s.dir(0, "a")
	s.file(a, "f")
	s.owner(a, 5, 6)
	s.unreadable(a)
	owner, group := api.Cred{Uid: 5, Gid: 9}, api.Cred{Uid: 9, Gid: 6}
	for _, x := range []struct {
		mode  int
		who   api.Cred
		fault api.Errno
	}{
		{0755, owner, api.ErrIO}, {0755, group, api.ErrIO}, {0755, anybody, api.ErrIO}, {0755, super, api.ErrIO},
		{0500, owner, api.ErrIO}, {0500, group, api.ErrAccess}, {0500, anybody, api.ErrAccess}, {0500, super, api.ErrIO},
		{0050, owner, api.ErrAccess}, {0050, group, api.ErrIO}, {0050, anybody, api.ErrAccess}, {0050, super, api.ErrIO},
		{0005, owner, api.ErrAccess}, {0005, group, api.ErrAccess}, {0005, anybody, api.ErrIO}, {0005, super, api.ErrIO},
		{0444, owner, api.ErrAccess}, {0111, group, api.ErrAccess}, {0222, anybody, api.ErrAccess}, {0666, anybody, api.ErrAccess},
		{0333, owner, api.ErrAccess}, {0000, owner, api.ErrAccess}, {0000, anybody, api.ErrAccess}, {0000, super, api.ErrIO},
	} {
		s.mode(a, x.mode)
		s.notShown(x.who, a, x.fault)
	}
	// What stands above, or in it, isn't asked for.
	s.mode(a, 0755)
	s.isShown(anybody, 0, false, entry("a", a))
	b := s.dir(a, "b")
	s.mode(a, 0)
	s.mode(0, 0)
	s.isShown(anybody, b, false)
	s.notShown(anybody, 0, api.ErrAccess)
}

// P12.1: what is answered is new memory.
func TestShownIsNew(t *testing.T) {
	s := newSite(t)
	b, a, h := s.file(0, "b"), s.file(0, "a"), s.file(0, ".h")
	for _, all := range []bool{false, true} {
		got, _ := Shown(s.f, anybody, 0, all)
		other, _ := Shown(s.f, anybody, 0, all)
		kept := slices.Clone(other)
		got = got[:cap(got)]
		for i := range got {
			got[i] = entry("spoilt", 9)
		}
		if !slices.Equal(other, kept) {
			t.Errorf("one answer of Shown changed another one: %v, which was %v", other, kept)
		}
	}
	s.isShown(anybody, 0, true, entry(".h", h), entry("a", a), entry("b", b))
	entries, err := s.f.List(0)
	if want := []api.Entry{entry("b", b), entry("a", a), entry(".h", h)}; !slices.Equal(entries, want) || err != api.OK {
		t.Errorf("List behind Shown: %v, want %v", entries, want)
	}
}
