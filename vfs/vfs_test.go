package vfs

import (
	"fmt"
	"reflect"
	"slices"
	"strings"
	"testing"

	"domesday/api"
)

// P6.1

func TestGood(t *testing.T) {
	for _, name := range []string{
		"a", "...", "....", ".a", "a.", "..a", ". ", " ", " .", "-", "\n", "\\", "\xff", "\xff\xfe", "\xc0\xaf", "\u3042", "*", "\x01", "a b",
		strings.Repeat("x", 254), strings.Repeat("x", 255), strings.Repeat(".", 255), strings.Repeat("\u00e9", 127),
	} {
		if !Good(name) {
			t.Errorf("Good(%.20q), %d bytes: false", name, len(name))
		}
	}
	for _, name := range []string{
		"", ".", "..", "/", "a/", "/a", "a/b", "//", "./", "\x00", "a\x00", "\x00a", "a\x00b", "\xff/", "\xff\x00", "\u3042/\u3042",
		strings.Repeat("x", 256), strings.Repeat("x", 100000), strings.Repeat("\u00e9", 128),
		strings.Repeat("x", 254) + "/", strings.Repeat("x", 254) + "\x00", "/" + strings.Repeat("x", 254),
	} {
		if Good(name) {
			t.Errorf("Good(%.20q), %d bytes: true", name, len(name))
		}
	}
}

func TestGoodByEachByte(t *testing.T) {
	for b := range 256 {
		want := b != 0 && b != '/'
		for _, name := range []string{"a" + string([]byte{byte(b)}), string([]byte{byte(b), 'a'}), string([]byte{'a', byte(b), 'b'})} {
			if Good(name) != want {
				t.Errorf("Good(%q): %v", name, !want)
			}
		}
		if alone := string([]byte{byte(b)}); Good(alone) != (want && b != '.') {
			t.Errorf("Good(%q): %v", alone, Good(alone))
		}
	}
}

func TestNew(t *testing.T) {
	f := New()
	isNode(t, f, 0, api.Node{Dev: 1, Ino: 1, Kind: api.Dir, Mode: 0o755, Size: 4096, Blocks: 8, Links: 2})
	isList(t, f, 0)
	if f.Count() != 1 || !slices.Equal(f.Devices(), []int{0}) || f.Up(0) != 0 || f.Over(0) != 0 {
		t.Errorf("a new one: %+v", look(f))
	}
}

func TestCountAndDevices(t *testing.T) {
	f := New()
	for i, c := range []struct {
		change  Change
		devices []int
	}{
		{dirIn(0, "a"), []int{0}},
		{dirIn(0, "b"), []int{0}},
		{mountOn(2, 0o700), []int{0, 3}},
		{fileIn(3, "f"), []int{0, 3}},
		{mountOn(1, 0o700), []int{0, 3, 5}},
		{dirIn(5, "c"), []int{0, 3, 5}},
		{mountOn(6, 0o700), []int{0, 3, 5, 7}},
		{linkIn(1, "l", "t"), []int{0, 3, 5, 7}},
	} {
		do(t, f, c.change)
		if got := f.Devices(); f.Count() != i+2 || !slices.Equal(got, c.devices) {
			t.Errorf("behind %s: %d nodes, devices %v, want %d, %v", short(c.change), f.Count(), got, i+2, c.devices)
		}
	}
}

// P6.2

// small is a file system with one node of each sort: 1 a directory that is
// covered by 5, 2 a file, 3 a link, 4 a directory, 6 a file in 5.
func small(t *testing.T) *FS {
	t.Helper()
	return with(t, dirIn(0, "d"), fileIn(0, "f"), linkIn(0, "l", "f"), dirIn(0, "e"), mountOn(1, 0o755), fileIn(5, "g"))
}

func TestDoAnswers(t *testing.T) {
	f := New()
	for _, c := range []struct {
		change Change
		want   int
	}{
		{dirIn(0, "a"), 1}, {fileIn(1, "f"), 2}, {nameIn(0, "g", 2), 0}, {linkIn(0, "l", "x"), 3}, {nameIn(1, "m", 3), 0},
		{modeOf(1, 0o700), 0}, {ownerOf(1, 5, 6), 0}, {timeOf(1, 2, 7), 0}, {mountOn(1, 0o700), 4}, {unreadable(2), 0},
		{fileIn(4, "f"), 5}, {dirIn(4, "a"), 6}, {fileIn(1, "behind"), 7},
	} {
		if got, err := f.Do(c.change); got != c.want || err != api.OK {
			t.Errorf("Do(%s): %d, %s, want %d", short(c.change), got, errorNames[err], c.want)
		}
	}
}

func TestNoKind(t *testing.T) {
	f := small(t)
	for _, kind := range []int{-1, 9, 10, 256, 1 << 32, least, greatest} {
		refuse(t, f, Change{Kind: kind, At: 4, To: 2, Name: "n", Text: "t"}, api.ErrArg)
		// All else that is wrong is asked later.
		refuse(t, f, Change{Kind: kind, At: -1, To: -1, N: -1}, api.ErrArg)
	}
}

func TestNoNode(t *testing.T) {
	f := small(t)
	for _, id := range []int{-1, -2, least, 7, 8, 300, greatest} {
		for _, kind := range []int{0, 1, 2, 3} {
			refuse(t, f, Change{Kind: kind, At: id, To: 2, Name: "n", Text: "t"}, api.ErrNoEnt)
		}
		for _, kind := range []int{2, 4, 5, 6, 7, 8} {
			refuse(t, f, Change{Kind: kind, At: 4, To: id, Name: "n"}, api.ErrNoEnt)
		}
	}
	// The last node is one.
	refuse(t, f, dirIn(6, "n"), api.ErrNotDir)
	do(t, f, nameIn(5, "n", 6))
	do(t, f, modeOf(6, 0))
}

func TestAtIsNoDirectory(t *testing.T) {
	f := small(t)
	for _, at := range []int{2, 3, 6} {
		for _, kind := range []int{0, 1, 2, 3} {
			refuse(t, f, Change{Kind: kind, At: at, To: 2, Name: "n", Text: "t"}, api.ErrNotDir)
		}
	}
}

func TestNames(t *testing.T) {
	f := small(t)
	for _, kind := range []int{0, 1, 2, 3} {
		for _, name := range []string{"", ".", "..", "/", "a/b", "\x00", strings.Repeat("x", 256)} {
			refuse(t, f, Change{Kind: kind, At: 4, To: 2, Name: name, Text: "t"}, api.ErrArg)
		}
		for i, name := range []string{"a", "...", strings.Repeat("x", 254)} {
			do(t, f, Change{Kind: kind, At: 4, To: 2, Name: name + fmt.Sprint(kind), Text: fmt.Sprint(i)})
		}
	}
}

func TestNamesThatThereAre(t *testing.T) {
	f := small(t)
	for _, kind := range []int{0, 1, 2, 3} {
		for _, name := range []string{"d", "f", "l", "e"} {
			refuse(t, f, Change{Kind: kind, At: 0, To: 2, Name: name, Text: "t"}, api.ErrExists)
			do(t, f, Change{Kind: kind, At: 0, To: 2, Name: name + fmt.Sprint(kind), Text: "t"})
		}
	}
	// A name is there by its bytes, and in one directory.
	do(t, f, dirIn(0, "F"))
	do(t, f, fileIn(4, "f"))
	do(t, f, fileIn(1, "f"))
	do(t, f, fileIn(5, "f"))
	refuse(t, f, fileIn(5, "g"), api.ErrExists)
	do(t, f, fileIn(1, "g"))
	// Of a directory that can't be read too.
	do(t, f, unreadable(4))
	refuse(t, f, fileIn(4, "f"), api.ErrExists)
	do(t, f, fileIn(4, "g"))
}

func TestOneMoreName(t *testing.T) {
	f := small(t)
	for _, to := range []int{0, 1, 4, 5} {
		refuse(t, f, nameIn(4, "n", to), api.ErrArg)
		refuse(t, f, nameIn(5, "n", to), api.ErrArg)
	}
	refuse(t, f, nameIn(4, "n", 6), api.ErrArg)
	refuse(t, f, nameIn(5, "n", 2), api.ErrArg)
	refuse(t, f, nameIn(5, "n", 3), api.ErrArg)
	do(t, f, nameIn(4, "n", 2))
	do(t, f, nameIn(4, "m", 2))
	do(t, f, nameIn(4, "l", 3))
	do(t, f, nameIn(5, "n", 6))
	do(t, f, nameIn(1, "n", 2))
	isList(t, f, 4, api.Entry{Name: "n", Id: 2}, api.Entry{Name: "m", Id: 2}, api.Entry{Name: "l", Id: 3})
	isList(t, f, 1, api.Entry{Name: "n", Id: 2})
}

func TestSizesAndTexts(t *testing.T) {
	f := small(t)
	for _, size := range []int64{-1, -4096, least} {
		refuse(t, f, Change{Kind: 1, At: 4, Name: "n", N: size}, api.ErrArg)
		// No other kind asks for it.
		do(t, f, Change{Kind: 0, At: 4, Name: fmt.Sprint("d", size), N: size})
		do(t, f, Change{Kind: 3, At: 4, Name: fmt.Sprint("l", size), Text: "t", N: size})
		do(t, f, Change{Kind: 2, At: 4, Name: fmt.Sprint("n", size), To: 2, N: size})
	}
	long := strings.Repeat("x", 4096)
	for i, text := range []string{"", "\x00", "a\x00", "\x00a", "a\x00b", long + "x", long[1:] + "\x00", long + long} {
		refuse(t, f, linkIn(4, "n", text), api.ErrArg)
		do(t, f, Change{Kind: 0, At: 4, Name: fmt.Sprint("td", i), Text: text})
		do(t, f, Change{Kind: 1, At: 4, Name: fmt.Sprint("tf", i), Text: text})
	}
	for i, text := range []string{"a", "/", "//", ".", "..", "\xff", "a\nb", long[1:], long} {
		id := do(t, f, linkIn(4, fmt.Sprint("tl", i), text))
		if got, err := f.Link(id); got != text || err != api.OK {
			t.Errorf("Link of %.20q: %.20q, %s", text, got, errorNames[err])
		}
	}
}

func TestNoTime(t *testing.T) {
	f := small(t)
	for _, which := range []int{-1, 3, 4, least, greatest} {
		refuse(t, f, timeOf(2, which, 5), api.ErrArg)
	}
	for which := range 3 {
		do(t, f, timeOf(2, which, 5))
	}
}

func TestMountedUpon(t *testing.T) {
	f := small(t)
	refuse(t, f, mountOn(2, 0), api.ErrNotDir)
	refuse(t, f, mountOn(3, 0), api.ErrNotDir)
	refuse(t, f, mountOn(6, 0), api.ErrNotDir)
	refuse(t, f, mountOn(0, 0), api.ErrArg)
	refuse(t, f, mountOn(1, 0), api.ErrArg)
	refuse(t, f, mountOn(5, 0), api.ErrArg)
	do(t, f, mountOn(4, 0))
	refuse(t, f, mountOn(4, 0), api.ErrArg)
	refuse(t, f, mountOn(7, 0), api.ErrArg)
	// What stands below one that is covered, or a device's first, is neither.
	do(t, f, dirIn(1, "a"))
	do(t, f, mountOn(8, 0))
	do(t, f, dirIn(5, "a"))
	do(t, f, mountOn(10, 0))
	do(t, f, dirIn(0, "u"))
	do(t, f, unreadable(12))
	do(t, f, mountOn(12, 0))
}

// filledUp has so many nodes: 1 a directory, 2 a file, 3 a link, the others
// files in 1.
func filledUp(t *testing.T, count int) *FS {
	t.Helper()
	f := with(t, dirIn(0, "d"), fileIn(0, "f"), linkIn(0, "l", "f"))
	for f.Count() < count {
		do(t, f, fileIn(1, fmt.Sprint(f.Count())))
	}
	return f
}

func TestMany(t *testing.T) {
	makers := []Change{dirIn(0, "n"), fileIn(0, "n"), linkIn(0, "n", "t"), mountOn(1, 0o755)}
	for _, c := range makers {
		f := filledUp(t, 298)
		do(t, f, fileIn(1, "299"))
		if got := do(t, f, c); got != 299 {
			t.Errorf("Do(%s): %d, want 299", short(c), got)
		}
		refuse(t, f, fileIn(0, "301"), api.ErrMany)
	}
	f := filledUp(t, 300)
	for _, c := range makers {
		refuse(t, f, c, api.ErrMany)
	}
	do(t, f, nameIn(1, "n", 2))
	do(t, f, modeOf(299, 0o600))
	do(t, f, ownerOf(299, 1, 2))
	do(t, f, timeOf(299, 0, 1))
	do(t, f, unreadable(299))
	// Whatever else is wrong is asked ahead.
	refuse(t, f, Change{Kind: 9}, api.ErrArg)
	refuse(t, f, dirIn(300, "n"), api.ErrNoEnt)
	refuse(t, f, dirIn(2, "n"), api.ErrNotDir)
	refuse(t, f, dirIn(0, "."), api.ErrArg)
	refuse(t, f, dirIn(0, "d"), api.ErrExists)
	refuse(t, f, Change{Kind: 1, Name: "n", N: -1}, api.ErrArg)
	refuse(t, f, linkIn(0, "n", ""), api.ErrArg)
	refuse(t, f, mountOn(300, 0), api.ErrNoEnt)
	refuse(t, f, mountOn(2, 0), api.ErrNotDir)
	refuse(t, f, mountOn(0, 0), api.ErrArg)
}

func TestFirstErrorFirst(t *testing.T) {
	f := small(t)
	for _, c := range []struct {
		change Change
		want   api.Errno
	}{
		{Change{Kind: -1, At: 9}, api.ErrArg},
		{dirIn(9, ""), api.ErrNoEnt},
		{dirIn(2, ""), api.ErrNotDir},
		{nameIn(9, "n", 9), api.ErrNoEnt},
		{nameIn(2, "n", 9), api.ErrNotDir},
		{nameIn(0, "/", 9), api.ErrArg},
		{nameIn(0, "f", 9), api.ErrExists},
		{nameIn(0, "f", 1), api.ErrExists},
		{nameIn(0, "n", 9), api.ErrNoEnt},
		{Change{Kind: 1, At: 0, Name: "f", N: -1}, api.ErrExists},
		{Change{Kind: 1, At: 2, Name: "n", N: -1}, api.ErrNotDir},
		{Change{Kind: 1, At: 9, Name: "n", N: -1}, api.ErrNoEnt},
		{linkIn(0, "f", ""), api.ErrExists},
		{linkIn(2, "n", ""), api.ErrNotDir},
		{linkIn(9, "n", ""), api.ErrNoEnt},
		{timeOf(9, 3, 0), api.ErrNoEnt},
		{timeOf(-1, -1, 0), api.ErrNoEnt},
	} {
		refuse(t, f, c.change, c.want)
	}
}

func TestModes(t *testing.T) {
	for _, c := range []struct{ mode, want int }{
		{0, 0}, {1, 1}, {0o644, 0o644}, {0o7777, 0o7777}, {0o10000, 0}, {0o10001, 1}, {0o107777, 0o7777}, {0o4000, 0o4000},
		{-1, 0o7777}, {-2, 0o7776}, {-0o10000, 0}, {-0o7777, 1}, {least, 0}, {greatest, 0o7777},
	} {
		f := with(t,
			Change{Kind: 0, Name: "d", A: c.mode}, Change{Kind: 1, Name: "f", A: c.mode}, linkIn(0, "l", "x"), mountOn(1, c.mode),
			modeOf(0, c.mode), modeOf(3, c.mode))
		for id := range f.Count() {
			if n, _ := f.Node(id); n.Mode != c.want {
				t.Errorf("mode %o, node %d: %o, want %o", c.mode, id, n.Mode, c.want)
			}
		}
	}
}

func TestOwners(t *testing.T) {
	for _, c := range []struct{ n, want int }{
		{0, 0}, {1, 1}, {1000, 1000}, {65536, 65536}, {greatest, greatest}, {-1, 0}, {-1000, 0}, {least, 0},
	} {
		f := small(t)
		for id := range f.Count() {
			want, _ := f.Node(id)
			do(t, f, ownerOf(id, 8, 9))
			do(t, f, ownerOf(id, c.n, 7))
			want.Uid, want.Gid = c.want, 7
			isNode(t, f, id, want)
			do(t, f, ownerOf(id, 7, c.n))
			want.Uid, want.Gid = 7, c.want
			isNode(t, f, id, want)
		}
	}
}

func TestTimes(t *testing.T) {
	for _, time := range []int64{0, 1, -1, least, greatest} {
		f := small(t)
		for id := range f.Count() {
			want, _ := f.Node(id)
			for which := range 3 {
				do(t, f, timeOf(id, which, 5))
				do(t, f, timeOf(id, which, time))
				want.Times[which] = time
				isNode(t, f, id, want)
			}
		}
	}
}

// P6.3

func TestWhatANodeHas(t *testing.T) {
	f := with(t,
		Change{Kind: 0, Name: "d", A: 0o1711, B: 7, N: 99, Text: "t", To: 9},
		Change{Kind: 1, At: 1, Name: "f", A: 0o640, B: 7, N: 5000, Text: "t", To: 9},
		Change{Kind: 3, At: 1, Name: "l", A: 0o640, B: 7, N: 5000, Text: "to", To: 9},
		Change{Kind: 7, At: 9, Name: "m", A: 0o2700, B: 7, N: 5000, Text: "t", To: 1},
		fileIn(4, "f"), fileIn(1, "g"))
	for id, want := range []api.Node{
		{Dev: 1, Ino: 1, Kind: api.Dir, Mode: 0o755, Size: 4096, Blocks: 8, Links: 3},
		{Dev: 1, Ino: 2, Kind: api.Dir, Mode: 0o1711, Size: 4096, Blocks: 8, Links: 2},
		{Dev: 1, Ino: 3, Kind: api.File, Mode: 0o640, Size: 5000, Blocks: 16, Links: 1},
		{Dev: 1, Ino: 4, Kind: api.Link, Mode: 0o777, Size: 2, Blocks: 0, Links: 1, Target: "to"},
		{Dev: 2, Ino: 1, Kind: api.Dir, Mode: 0o2700, Size: 4096, Blocks: 8, Links: 2},
		{Dev: 2, Ino: 2, Kind: api.File, Mode: 0o644, Links: 1},
		{Dev: 1, Ino: 5, Kind: api.File, Mode: 0o644, Links: 1},
	} {
		isNode(t, f, id, want)
	}
}

func TestSizesOfFiles(t *testing.T) {
	for _, c := range []struct{ size, blocks int64 }{
		{0, 0}, {1, 8}, {512, 8}, {4095, 8}, {4096, 8}, {4097, 16}, {8191, 16}, {8192, 16}, {8193, 24}, {1 << 40, 1 << 31},
		{greatest, 1 << 54}, {greatest - 4095, 1<<54 - 8}, {greatest - 4094, 1 << 54},
	} {
		f := with(t, Change{Kind: 1, Name: "f", N: c.size})
		if n, _ := f.Node(1); n.Size != c.size || n.Blocks != c.blocks {
			t.Errorf("size %d: size %d, %d blocks, want %d", c.size, n.Size, n.Blocks, c.blocks)
		}
	}
}

func TestSizesOfLinks(t *testing.T) {
	for _, text := range []string{"a", "\u3042", "\xff\xff", strings.Repeat("x", 4095), strings.Repeat("x", 4096)} {
		f := with(t, linkIn(0, "l", text))
		isNode(t, f, 1, api.Node{Dev: 1, Ino: 2, Kind: api.Link, Mode: 0o777, Size: int64(len(text)), Links: 1, Target: text})
	}
}

func TestModeOfALinkMayBeChanged(t *testing.T) {
	f := with(t, linkIn(0, "l", "x"), modeOf(1, 0o640))
	isNode(t, f, 1, api.Node{Dev: 1, Ino: 2, Kind: api.Link, Mode: 0o640, Size: 1, Links: 1, Target: "x"})
}

func TestLinksOfDirectories(t *testing.T) {
	f := with(t, dirIn(0, "d"))
	isLinks(t, f, 0, 3)
	for i, c := range []struct {
		change Change
		links  int
	}{
		{fileIn(1, "f"), 2}, {dirIn(1, "a"), 3}, {linkIn(1, "l", "x"), 3}, {nameIn(1, "g", 2), 3}, {dirIn(1, "b"), 4},
		// What stands deeper isn't counted.
		{dirIn(3, "a"), 4}, {mountOn(3, 0), 4}, {dirIn(7, "a"), 4}, {unreadable(1), 4}, {dirIn(1, "c"), 5},
		{mountOn(1, 0), 5}, {dirIn(1, "e"), 6},
	} {
		do(t, f, c.change)
		if n, _ := f.Node(1); n.Links != c.links {
			t.Errorf("change %d, %s: %d links, want %d", i, short(c.change), n.Links, c.links)
		}
	}
	isLinks(t, f, 0, 3)
	// 7 covers 3, in each of which a directory stands; 10 covers 1.
	isLinks(t, f, 3, 3)
	isLinks(t, f, 7, 3)
	isLinks(t, f, 10, 2)
	do(t, f, dirIn(10, "a"))
	isLinks(t, f, 10, 3)
}

func TestLinksOfSeveralNames(t *testing.T) {
	f := with(t, fileIn(0, "f"), linkIn(0, "l", "x"), dirIn(0, "d"))
	for i := range 20 {
		do(t, f, nameIn(3*(i%2), fmt.Sprint("f", i), 1))
		isLinks(t, f, 1, i+2)
		isLinks(t, f, 2, i+1)
		do(t, f, nameIn(3*(i%2), fmt.Sprint("l", i), 2))
		isLinks(t, f, 2, i+2)
	}
	isLinks(t, f, 0, 3)
	isLinks(t, f, 3, 2)
}

func TestInoOnSeveralDevices(t *testing.T) {
	f := with(t,
		dirIn(0, "a"), dirIn(0, "b"), mountOn(1, 0), mountOn(2, 0),
		fileIn(3, "f"), fileIn(4, "f"), fileIn(0, "f"), dirIn(3, "d"), nameIn(0, "g", 7), linkIn(8, "l", "x"), dirIn(4, "d"),
		mountOn(8, 0), fileIn(8, "g"), fileIn(11, "g"), fileIn(2, "f"))
	for id, want := range [][2]int{
		{1, 1}, {1, 2}, {1, 3}, {2, 1}, {3, 1}, {2, 2}, {3, 2}, {1, 4}, {2, 3}, {2, 4}, {3, 3}, {4, 1}, {2, 5}, {4, 2}, {1, 5},
	} {
		if n, _ := f.Node(id); n.Dev != want[0] || n.Ino != want[1] {
			t.Errorf("node %d: device %d, ino %d, want %v", id, n.Dev, n.Ino, want)
		}
	}
}

// P6.4

func TestAskingOfNoNode(t *testing.T) {
	f := small(t)
	for _, id := range []int{-1, -2, least, 7, 8, 300, greatest} {
		want := told{nodeErr: api.ErrNoEnt, list: []api.Entry{}, listErr: api.ErrNoEnt, linkErr: api.ErrNoEnt, up: -1, over: id}
		if got := lookAt(f, id); !reflect.DeepEqual(got, want) {
			t.Errorf("node %d: %+v", id, got)
		}
	}
}

func TestList(t *testing.T) {
	f := with(t,
		dirIn(0, "z"), fileIn(0, "a"), linkIn(0, "M", "a"), nameIn(0, ".h", 2), dirIn(1, "b"), fileIn(0, "\xff"), nameIn(1, "a", 2),
		mountOn(1, 0), fileIn(6, "n"), fileIn(1, "behind"))
	isList(t, f, 0, api.Entry{Name: "z", Id: 1}, api.Entry{Name: "a", Id: 2}, api.Entry{Name: "M", Id: 3}, api.Entry{Name: ".h", Id: 2}, api.Entry{Name: "\xff", Id: 5})
	isList(t, f, 1, api.Entry{Name: "b", Id: 4}, api.Entry{Name: "a", Id: 2}, api.Entry{Name: "behind", Id: 8})
	isList(t, f, 4)
	isList(t, f, 6, api.Entry{Name: "n", Id: 7})
	for _, id := range []int{2, 3, 5, 7, 8} {
		if l, err := f.List(id); len(l) != 0 || err != api.ErrNotDir {
			t.Errorf("List(%d): %v, %s", id, l, errorNames[err])
		}
	}
}

func TestLink(t *testing.T) {
	f := small(t)
	if s, err := f.Link(3); s != "f" || err != api.OK {
		t.Errorf("Link(3): %q, %s", s, errorNames[err])
	}
	for _, id := range []int{0, 1, 2, 4, 5, 6} {
		if s, err := f.Link(id); s != "" || err != api.ErrArg {
			t.Errorf("Link(%d): %q, %s", id, s, errorNames[err])
		}
	}
}

func TestWhatCannotBeRead(t *testing.T) {
	f := small(t)
	do(t, f, fileIn(1, "f"))
	for id := range f.Count() {
		want := lookAt(f, id)
		do(t, f, unreadable(id))
		switch want.node.Kind {
		case api.Dir:
			want.list, want.listErr = []api.Entry{}, api.ErrIO
		case api.Link:
			want.link, want.linkErr = "", api.ErrIO
		}
		if got := lookAt(f, id); !reflect.DeepEqual(got, want) {
			t.Errorf("node %d: %+v, want %+v", id, got, want)
		}
		// It stays so.
		do(t, f, unreadable(id))
		if got := lookAt(f, id); !reflect.DeepEqual(got, want) {
			t.Errorf("node %d, told twice: %+v, want %+v", id, got, want)
		}
	}
}

func TestUpAndOver(t *testing.T) {
	f := with(t,
		dirIn(0, "a"), dirIn(1, "b"), fileIn(1, "f"), linkIn(1, "l", "b"), dirIn(2, "c"), // 1 to 5
		mountOn(2, 0), dirIn(6, "c"), fileIn(6, "f"), // 6 covers 2
		mountOn(1, 0), dirIn(9, "b"), mountOn(7, 0), dirIn(11, "e"), // 9 covers 1, 11 covers 7
		dirIn(2, "g"), mountOn(10, 0), unreadable(1)) // 14 covers 10
	for id, want := range [][2]int{
		{0, 0}, {0, 9}, {1, 6}, {-1, 3}, {-1, 4}, {2, 5}, {1, 6}, {6, 11}, {-1, 8}, {0, 9}, {9, 14}, {6, 11}, {11, 12}, {2, 13}, {9, 14},
	} {
		if up, over := f.Up(id), f.Over(id); up != want[0] || over != want[1] {
			t.Errorf("node %d: up %d, over %d, want %v", id, up, over, want)
		}
	}
}

func TestSame(t *testing.T) {
	if f := New(); !f.Same(f) || !f.Same(New()) {
		t.Error("new ones are not the same")
	}
	f := small(t)
	if !f.Same(f) || !f.Same(small(t)) {
		t.Error("two that were built alike are not the same")
	}
	if f.Same(New()) || New().Same(f) {
		t.Error("a new one and another are the same")
	}
	for _, c := range []Change{
		dirIn(4, "n"), fileIn(4, "n"), nameIn(4, "n", 2), linkIn(4, "n", "t"), mountOn(4, 0o755),
		modeOf(2, 0o600), ownerOf(2, 1, 0), ownerOf(2, 0, 1), timeOf(2, 0, 1), timeOf(2, 1, 1), timeOf(2, 2, 1),
		unreadable(0), unreadable(1), unreadable(2), unreadable(3), unreadable(4), unreadable(5), unreadable(6),
	} {
		g := small(t)
		do(t, g, c)
		if f.Same(g) || g.Same(f) {
			t.Errorf("with %s and without it: the same", short(c))
		}
		do(t, f, c)
		if !f.Same(g) || !g.Same(f) {
			t.Errorf("both with %s: not the same", short(c))
		}
		f = small(t)
	}
}

func TestSameByOneDifference(t *testing.T) {
	two := []Change{dirIn(0, "a"), dirIn(0, "b"), fileIn(0, "f"), linkIn(0, "l", "t")}
	for _, c := range [][2]Change{
		{dirIn(1, "n"), dirIn(1, "m")}, {dirIn(1, "n"), dirIn(2, "n")}, {dirIn(1, "n"), fileIn(1, "n")},
		{fileIn(1, "n"), linkIn(1, "n", "t")}, {linkIn(1, "n", "t"), linkIn(1, "n", "u")},
		{Change{Kind: 1, At: 1, Name: "n", A: 1}, Change{Kind: 1, At: 1, Name: "n", A: 2}},
		{Change{Kind: 1, At: 1, Name: "n", N: 1}, Change{Kind: 1, At: 1, Name: "n", N: 2}},
		{nameIn(1, "n", 3), nameIn(1, "m", 3)}, {nameIn(1, "n", 3), nameIn(2, "n", 3)}, {nameIn(1, "n", 3), nameIn(1, "n", 4)},
		{mountOn(1, 0o755), mountOn(2, 0o755)}, {mountOn(1, 0o755), mountOn(1, 0o700)},
		{unreadable(1), unreadable(2)}, {timeOf(3, 0, 1), timeOf(3, 1, 1)},
	} {
		f, g := with(t, two...), with(t, two...)
		do(t, f, c[0])
		do(t, g, c[1])
		if f.Same(g) || g.Same(f) {
			t.Errorf("%s, and %s: the same", short(c[0]), short(c[1]))
		}
	}
	// The order of a directory's entries is that in which they were built.
	f := with(t, append(slices.Clone(two), nameIn(1, "n", 3), nameIn(1, "m", 3))...)
	g := with(t, append(slices.Clone(two), nameIn(1, "m", 3), nameIn(1, "n", 3))...)
	if f.Same(g) {
		t.Error("entries in another order: the same")
	}
}

func TestSameBehindARefusal(t *testing.T) {
	f, g := small(t), small(t)
	refuse(t, f, Change{Kind: -1}, api.ErrArg)
	refuse(t, f, Change{Kind: 9}, api.ErrArg)
	for kind := range 9 {
		refuse(t, f, Change{Kind: kind, At: 99, To: 99, A: 9, N: -1}, api.ErrNoEnt)
	}
	refuse(t, f, dirIn(0, "d"), api.ErrExists)
	refuse(t, f, nameIn(4, "n", 6), api.ErrArg)
	if !f.Same(g) || !g.Same(f) {
		t.Error("what was refused is told")
	}
	do(t, f, fileIn(0, "n"))
	do(t, g, fileIn(0, "n"))
	if !f.Same(g) {
		t.Error("what was refused is told later")
	}
}

// P6.5, and what the rules ask of all

func TestAskingChangesNothing(t *testing.T) {
	f, g := small(t), small(t)
	do(t, f, unreadable(4))
	do(t, g, unreadable(4))
	ahead := look(f)
	for range 3 {
		for id := -1; id <= f.Count(); id++ {
			lookAt(f, id)
		}
		f.Same(g)
		f.Same(New())
		f.Same(f)
		Good("a")
	}
	if !reflect.DeepEqual(look(f), ahead) || !f.Same(g) {
		t.Error("asking changed something")
	}
	do(t, f, fileIn(1, "n"))
	do(t, g, fileIn(1, "n"))
	if !f.Same(g) {
		t.Error("asking changed what is built later")
	}
}

func TestAnswersMayBeWrittenTo(t *testing.T) {
	f, g := small(t), small(t)
	ahead := look(f)
	for range 2 {
		devices := f.Devices()
		spare := devices[:cap(devices)]
		for i := range spare {
			spare[i] = 99
		}
		for _, id := range []int{0, 1, 4, 5} {
			list, _ := f.List(id)
			spare := list[:cap(list)]
			for i := range spare {
				spare[i] = api.Entry{Name: "other", Id: 99}
			}
			_ = append(list, api.Entry{Name: "more", Id: 98})
		}
		if !reflect.DeepEqual(look(f), ahead) || !f.Same(g) {
			t.Fatal("what was answered hangs on the file system")
		}
	}
}

func TestAnswersStay(t *testing.T) {
	f := New()
	var lists [][]api.Entry
	for i := range 100 {
		do(t, f, fileIn(0, fmt.Sprint(i)))
		l, _ := f.List(0)
		lists = append(lists, l)
	}
	for i, l := range lists {
		if len(l) != i+1 || l[i] != (api.Entry{Name: fmt.Sprint(i), Id: i + 1}) || l[0].Name != "0" {
			t.Fatalf("list %d was changed: %v", i, l)
		}
	}
}

func TestTwoFileSystemsStandAlone(t *testing.T) {
	f, g := small(t), small(t)
	ahead := look(g)
	for _, c := range []Change{
		dirIn(0, "n"), fileIn(4, "n"), nameIn(0, "m", 2), linkIn(0, "k", "t"), modeOf(0, 0), ownerOf(0, 1, 1), timeOf(0, 0, 1),
		mountOn(4, 0), unreadable(0), unreadable(3), fileIn(0, "x"),
	} {
		do(t, f, c)
		if !reflect.DeepEqual(look(g), ahead) {
			t.Fatalf("Do(%s) of one changed the other", short(c))
		}
	}
	if !g.Same(small(t)) || New().Count() != 1 {
		t.Error("one hangs on the other")
	}
}
