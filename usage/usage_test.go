package usage

import (
	"fmt"
	"math"
	"slices"
	"strings"
	"testing"

	"domesday/api"
	"domesday/vfs"
)

// P14.2: the chapter's example.
func TestSumOfTheExample(t *testing.T) {
	s := newSite(t)
	a := s.dir(0, "a")
	s.name(a, "g", s.file(a, "f", 5000))
	s.isSum(super, from(Start{a, "a"}), How{All: true, Most: -1, Unit: 1024}, 12, line(8, "a/f"), line(12, "a"))
	s.isSum(super, from(Start{a, "a"}), How{All: true, Most: -1}, 12, line(8, "a/f"), line(12, "a"))
	s.isSum(super, from(Start{a, "a"}), How{Most: -1, Unit: 1024}, 12, line(12, "a"))
	s.isSum(super, from(Start{a, "a"}), How{All: true, Most: -1, Unit: 1024, Each: true}, 20,
		line(8, "a/f"), line(8, "a/g"), line(20, "a"))
}

// P14.2
func TestSumOfNoStarts(t *testing.T) {
	s := newSite(t)
	s.file(0, "f", 5000)
	for _, how := range []How{{}, dirsAlone, allNodes, eachLink, {Unit: -1}} {
		s.isSum(super, nil, how, 0)
		s.isSum(super, []Start{}, how, 0)
	}
}

// P14.2: of a start that there isn't nothing is told, and the others are.
func TestSumOfStartsThatThereAreNot(t *testing.T) {
	s := newSite(t)
	f := s.file(0, "f", 1)
	count := s.f.Count()
	for _, id := range []int{count, count + 1, api.MaxNodes, math.MaxInt, -1, -2, math.MinInt} {
		s.isSum(super, from(Start{id, "x"}), allNodes, 0)
		s.isSum(super, from(Start{id, "x"}, Start{f, "f"}, Start{id, "y"}), allNodes, 8, line(8, "f"))
		s.isSum(super, from(Start{id, ""}, Start{id, ""}), eachLink, 0)
	}
	if got, whole := Sum(&vfs.FS{}, super, from(Start{0, "/"}), allNodes); len(got) > 0 || whole != 0 {
		t.Errorf("Sum of no file system's root: %s, %d", told(got), whole)
	}
}

// P14.2: what is no directory has its line at once, whether or not all are
// asked for, as it is the start; a link isn't followed.
func TestSumOfStartsThatAreNoDirectories(t *testing.T) {
	s := newSite(t)
	a := s.dir(0, "a")
	s.file(a, "b", 9999)
	bad := s.file(0, "bad", 4096)
	s.unreadable(bad)
	closed := s.file(0, "closed", 4097)
	s.mode(closed, 0)
	for _, c := range []struct {
		id     int
		blocks int64
	}{
		{s.file(0, "none", 0), 0}, {s.file(0, "one", 1), 8}, {bad, 8}, {closed, 16}, {s.link(0, "l", "a"), 0},
		{s.link(0, "top", "/"), 0}, {s.link(0, "gone", "gone"), 0}, {s.file(0, "great", math.MaxInt64), 1 << 54},
	} {
		for _, name := range []string{"f", "", "/", "f/", "x/y"} {
			for _, how := range []How{dirsAlone, allNodes, eachLink, {Most: 0, Unit: 512}, {Most: 7, Unit: 512}} {
				for _, who := range []api.Cred{super, anybody} {
					units := unitsAnew(c.blocks, 512)
					s.isSum(who, from(Start{c.id, name}), how, units, line(units, name))
				}
			}
		}
	}
}

// P14.2
func TestSumOfEmptyDirectories(t *testing.T) {
	s := newSite(t)
	s.isSum(super, from(Start{0, "/"}), dirsAlone, 8, line(8, "/"))
	a := s.dir(0, "a")
	for _, how := range []How{dirsAlone, allNodes, eachLink, {Unit: 512}} {
		s.isSum(anybody, from(Start{a, "x/a"}), how, 8, line(8, "x/a"))
	}
	s.isSum(anybody, from(Start{0, "/"}), dirsAlone, 16, line(8, "/a"), line(16, "/"))
}

// P14.2: lines stand in the order of the walk: a directory's behind all below
// it, what it has by the names' bytes, those with a point ahead too.
func TestSumInOrder(t *testing.T) {
	s := newSite(t)
	b := s.dir(0, "b")
	s.file(b, "z", 1)
	s.file(b, "B", 4097)
	s.file(0, "c", 0)
	a := s.dir(0, "a")
	in := s.dir(a, "in")
	s.file(in, "f", 8193)
	s.file(a, ".h", 1)
	s.link(a, "l", "in")
	s.dir(0, ".d")
	want := []Line{
		line(8, "/.d"), line(8, "/a/.h"), line(24, "/a/in/f"), line(32, "/a/in"), line(0, "/a/l"), line(48, "/a"),
		line(16, "/b/B"), line(8, "/b/z"), line(32, "/b"), line(0, "/c"), line(96, "/"),
	}
	s.isSum(anybody, from(Start{0, "/"}), allNodes, 96, want...)
	s.isSum(anybody, from(Start{0, "/"}), eachLink, 96, want...)
	s.isSum(anybody, from(Start{0, "/"}), dirsAlone, 96,
		line(8, "/.d"), line(32, "/a/in"), line(48, "/a"), line(32, "/b"), line(96, "/"))
	s.isSum(anybody, from(Start{b, "b"}, Start{a, "a"}), allNodes, 80,
		line(16, "b/B"), line(8, "b/z"), line(32, "b"),
		line(8, "a/.h"), line(24, "a/in/f"), line(32, "a/in"), line(0, "a/l"), line(48, "a"))
}

// P14.2: of each unit, also of those that are none.
func TestSumInUnits(t *testing.T) {
	s := newSite(t)
	a := s.dir(0, "a")
	s.file(a, "f", 1)
	for _, c := range []struct{ unit, file, whole int64 }{
		{1, 4096, 8192}, {511, 9, 17}, {512, 8, 16}, {1000, 5, 9}, {1024, 4, 8}, {3000, 2, 3}, {4096, 1, 2}, {5000, 1, 2},
		{8192, 1, 1}, {math.MaxInt64, 1, 1}, {0, 4, 8}, {-1, 4, 8}, {-512, 4, 8}, {math.MinInt64, 4, 8},
	} {
		s.isSum(super, from(Start{a, "a"}), How{All: true, Most: -1, Unit: c.unit}, c.whole,
			line(c.file, "a/f"), line(c.whole, "a"))
	}
	// What is rounded up is each sum, not what it is made of.
	b := s.dir(0, "b")
	for i := range 5 {
		s.file(b, fmt.Sprint(i), 1)
	}
	s.isSum(super, from(Start{b, "b"}, Start{a, "a"}), How{Most: -1, Unit: 5000}, 7, line(5, "b"), line(2, "a"))
}

// P14.2: somebody else's directories are closed, but not to the uid 0.
func TestSumOfClosedDirectories(t *testing.T) {
	s := newSite(t)
	a := s.dir(0, "a")
	closed := s.dir(a, "closed")
	s.file(closed, "f", 9999)
	s.file(s.dir(closed, "in"), "g", 1)
	s.file(a, "b", 1)
	s.file(a, "z", 1)
	bySuper := []Line{
		line(8, "a/b"), line(24, "a/closed/f"), line(8, "a/closed/in/g"), line(16, "a/closed/in"), line(48, "a/closed"),
		line(8, "a/z"), line(72, "a"),
	}
	beside := []Line{
		line(8, "a/b"), failed("a/closed", api.ErrAccess), line(8, "a/closed"), line(8, "a/z"), line(32, "a"),
	}
	for _, mode := range []int{0, 0700, 0750, 0701, 0704, 0702, 0706, 0703, 0773, 0776} {
		s.mode(closed, mode)
		s.isSum(super, from(Start{a, "a"}), allNodes, 72, bySuper...)
		s.isSum(anybody, from(Start{a, "a"}), allNodes, 32, beside...)
		s.isSum(anybody, from(Start{a, "a"}), dirsAlone, 32, beside[1], beside[2], beside[4])
		s.isSum(anybody, from(Start{closed, "c"}), allNodes, 8, failed("c", api.ErrAccess), line(8, "c"))
		s.isSum(anybody, from(Start{closed, "c"}), How{Unit: 512}, 8, failed("c", api.ErrAccess), line(8, "c"))
	}
	s.mode(closed, 0705)
	s.isSum(anybody, from(Start{a, "a"}), allNodes, 72, bySuper...)
	s.mode(closed, 0700)
	s.owner(closed, anybody.Uid, 0)
	s.isSum(anybody, from(Start{a, "a"}), allNodes, 72, bySuper...)
	s.mode(closed, 0070)
	s.isSum(anybody, from(Start{a, "a"}), allNodes, 32, beside...)
	s.owner(closed, 0, anybody.Gid)
	s.isSum(anybody, from(Start{a, "a"}), allNodes, 72, bySuper...)
}

// P14.2: what can't be read has its error for everybody, but where it is
// closed.
func TestSumOfUnreadableDirectories(t *testing.T) {
	s := newSite(t)
	a := s.dir(0, "a")
	bad := s.dir(a, "bad")
	s.file(bad, "f", 9999)
	s.file(a, "z", 1)
	s.unreadable(bad)
	for _, who := range []api.Cred{super, anybody} {
		s.isSum(who, from(Start{a, "a"}), allNodes, 24,
			failed("a/bad", api.ErrIO), line(8, "a/bad"), line(8, "a/z"), line(24, "a"))
		s.isSum(who, from(Start{bad, "b"}), dirsAlone, 8, failed("b", api.ErrIO), line(8, "b"))
		s.isSum(who, from(Start{bad, "b"}, Start{a, "a"}), dirsAlone, 24,
			failed("b", api.ErrIO), line(8, "b"), line(16, "a"))
	}
	s.mode(bad, 0700)
	s.isSum(anybody, from(Start{bad, "b"}), dirsAlone, 8, failed("b", api.ErrAccess), line(8, "b"))
	s.isSum(super, from(Start{bad, "b"}), dirsAlone, 8, failed("b", api.ErrIO), line(8, "b"))
}

// P14.2: what is deeper than Most counts, but has no line; errors have theirs.
func TestSumDownToSomeDepth(t *testing.T) {
	s := newSite(t)
	a := s.dir(0, "a")
	b := s.dir(a, "b")
	bad := s.dir(b, "bad")
	s.unreadable(bad)
	s.file(b, "g", 1)
	s.file(a, "f", 1)
	levels := []struct {
		depth int
		line  Line
	}{
		{math.MinInt, failed("a/b/bad", api.ErrIO)}, {2, line(8, "a/b/bad")}, {2, line(8, "a/b/g")},
		{1, line(24, "a/b")}, {1, line(8, "a/f")}, {0, line(40, "a")},
	}
	isDir := map[string]bool{"a": true, "a/b": true, "a/b/bad": true}
	for _, most := range []int{0, 1, 2, 3, 99, 100, 101, math.MaxInt, -1, -2, math.MinInt} {
		for _, all := range []bool{false, true} {
			var want []Line
			for _, l := range levels {
				if (most < 0 || l.depth <= most) && (all || isDir[l.line.Name]) {
					want = append(want, l.line)
				}
			}
			s.isSum(anybody, from(Start{a, "a"}), How{All: all, Most: most, Unit: 512}, 40, want...)
			s.isSum(anybody, from(Start{a, "a"}), How{All: all, Most: most, Unit: 512, Each: true}, 40, want...)
		}
	}
	// The depth is counted from each start.
	s.isSum(super, from(Start{b, "b"}, Start{a, "a"}), How{All: true, Unit: 512}, 40,
		failed("b/bad", api.ErrIO), line(24, "b"), line(16, "a"))
}

// P14.2: the names are the walk's.
func TestSumOfNames(t *testing.T) {
	s := newSite(t)
	a := s.dir(0, "a")
	s.file(a, "f", 1)
	for _, c := range []struct{ name, below string }{
		{"a", "a/f"}, {"", "/f"}, {"/", "/f"}, {"a/", "a/f"}, {"//", "//f"}, {"a//", "a//f"}, {".", "./f"},
		{"../a", "../a/f"}, {"\xff\x00\n", "\xff\x00\n/f"},
	} {
		s.isSum(super, from(Start{a, c.name}), allNodes, 16, line(8, c.below), line(16, c.name))
		s.mode(a, 0)
		s.isSum(anybody, from(Start{a, c.name}), allNodes, 8, failed(c.name, api.ErrAccess), line(8, c.name))
		s.mode(a, 0755)
	}
}

// P14.2: in the place of what is covered stands what covers it.
func TestSumOfDevices(t *testing.T) {
	s := newSite(t)
	a := s.dir(0, "a")
	lost := s.file(a, "lost", 99999)
	first := s.cover(a)
	s.file(first, "f", 1)
	want := []Line{line(8, "x/f"), line(16, "x")}
	s.isSum(super, from(Start{a, "x"}), allNodes, 16, want...)
	s.isSum(super, from(Start{first, "x"}), allNodes, 16, want...)
	s.isSum(super, from(Start{a, "x"}, Start{first, "y"}), allNodes, 16, want...)
	s.isSum(super, from(Start{first, "x"}, Start{a, "y"}), allNodes, 16, want...)
	s.isSum(super, from(Start{a, "x"}, Start{first, "x"}), eachLink, 32, slices.Concat(want, want)...)
	s.isSum(super, from(Start{0, "/"}), allNodes, 24, line(8, "/a/f"), line(16, "/a"), line(24, "/"))
	s.isSum(super, from(Start{0, "/"}, Start{a, "x"}, Start{first, "y"}), allNodes, 24,
		line(8, "/a/f"), line(16, "/a"), line(24, "/"))
	// What stands in a covered directory is there as a start.
	in := s.dir(first, "in")
	s.file(in, "lost", 1)
	inner := s.cover(in)
	s.isSum(super, from(Start{a, "x"}), allNodes, 24, line(8, "x/f"), line(8, "x/in"), line(24, "x"))
	s.isSum(super, from(Start{inner, "i"}, Start{a, "x"}, Start{in, "y"}), allNodes, 24,
		line(8, "i"), line(8, "x/f"), line(16, "x"))
	s.isSum(super, from(Start{lost, "lost"}, Start{a, "x"}), dirsAlone, 224, line(200, "lost"), line(8, "x/in"), line(24, "x"))
}

// P14.2: a node is known by its device and its number there: those of two
// devices have one number.
func TestSumOfOneNumberOnTwoDevices(t *testing.T) {
	s := newSite(t)
	second := s.cover(s.dir(0, "d"))
	third := s.cover(s.dir(0, "e"))
	f, g, h := s.file(0, "f", 1), 0, 0
	for i := 0; g == 0 || h == 0; i++ {
		for at, found := range map[int]*int{second: &g, third: &h} {
			id := s.file(at, fmt.Sprint(i), 1)
			if s.ino(id) == s.ino(f) {
				*found = id
			}
		}
	}
	if s.ino(0) != s.ino(second) || s.ino(f) != s.ino(g) || s.ino(g) != s.ino(h) {
		t.Fatal("the nodes' numbers differ")
	}
	s.isSum(super, from(Start{f, "f"}, Start{g, "g"}, Start{h, "h"}), allNodes, 24, line(8, "f"), line(8, "g"), line(8, "h"))
	s.isSum(super, from(Start{h, "h"}, Start{f, "f"}, Start{h, "h"}), allNodes, 16, line(8, "h"), line(8, "f"))
	_, whole := Sum(s.f, super, from(Start{0, "/"}), dirsAlone)
	// All nodes are met, but the two that are covered.
	if want := int64(8 * (s.f.Count() - 2)); whole != want {
		t.Errorf("Sum of the root: in all %d, want %d", whole, want)
	}
}

// ino is a node's number on its device.
func (s site) ino(id int) int {
	node, _ := s.f.Node(id)
	return node.Ino
}

// P14.2: a node's second name counts nothing, wherever it is, but with Each.
func TestSumOfNodesWithTwoNames(t *testing.T) {
	s := newSite(t)
	a := s.dir(0, "a")
	b := s.dir(0, "b")
	f := s.file(a, "f", 4097)
	s.name(a, "g", f)
	s.name(b, "f", f)
	l := s.link(b, "l", "f")
	s.name(b, "m", l)
	s.isSum(super, from(Start{0, "/"}), allNodes, 40,
		line(16, "/a/f"), line(24, "/a"), line(0, "/b/l"), line(8, "/b"), line(40, "/"))
	s.isSum(super, from(Start{0, "/"}), eachLink, 72,
		line(16, "/a/f"), line(16, "/a/g"), line(40, "/a"),
		line(16, "/b/f"), line(0, "/b/l"), line(0, "/b/m"), line(24, "/b"), line(72, "/"))
	s.isSum(super, from(Start{a, "a"}, Start{b, "b"}), allNodes, 32,
		line(16, "a/f"), line(24, "a"), line(0, "b/l"), line(8, "b"))
	s.isSum(super, from(Start{b, "b"}, Start{a, "a"}), allNodes, 32,
		line(16, "b/f"), line(0, "b/l"), line(24, "b"), line(8, "a"))
	s.isSum(super, from(Start{b, "b"}, Start{a, "a"}), dirsAlone, 32, line(24, "b"), line(8, "a"))
	s.isSum(super, from(Start{b, "b"}, Start{a, "a"}), eachLink, 64,
		line(16, "b/f"), line(0, "b/l"), line(0, "b/m"), line(24, "b"),
		line(16, "a/f"), line(16, "a/g"), line(40, "a"))
	s.isSum(super, from(Start{f, "f"}, Start{a, "a"}, Start{f, "f"}), allNodes, 24, line(16, "f"), line(8, "a"))
	s.isSum(super, from(Start{l, "m"}, Start{b, "b"}), allNodes, 24, line(0, "m"), line(16, "b/f"), line(24, "b"))
	// One that isn't told, as it is too deep, was met even so.
	s.isSum(super, from(Start{a, "a"}, Start{f, "f"}), How{Unit: 512}, 24, line(24, "a"))
}

// P14.2: what a walk ahead has met has no line, and counts nothing, but with
// Each.
func TestSumOfStartsThatWereMet(t *testing.T) {
	s := newSite(t)
	a := s.dir(0, "a")
	b := s.dir(a, "b")
	c := s.dir(b, "c")
	f := s.file(c, "f", 1)
	s.file(a, "x", 1)
	ofC := []Line{line(8, "C/f"), line(16, "C")}
	ofA := []Line{line(8, "A/b/c/f"), line(16, "A/b/c"), line(24, "A/b"), line(8, "A/x"), line(40, "A")}
	s.isSum(super, from(Start{a, "A"}, Start{a, "A"}), allNodes, 40, ofA...)
	s.isSum(super, from(Start{a, "A"}, Start{a, "again"}, Start{c, "C"}, Start{f, "F"}), allNodes, 40, ofA...)
	s.isSum(super, from(Start{c, "C"}, Start{a, "A"}), allNodes, 40,
		append(slices.Clone(ofC), line(8, "A/b"), line(8, "A/x"), line(24, "A"))...)
	s.isSum(super, from(Start{c, "C"}, Start{a, "A"}), How{Unit: 512}, 40, line(16, "C"), line(24, "A"))
	s.isSum(super, from(Start{f, "F"}, Start{c, "C"}, Start{f, "F"}, Start{b, "B"}), allNodes, 24,
		line(8, "F"), line(8, "C"), line(8, "B"))
	s.isSum(super, from(Start{a, "A"}, Start{c, "C"}), eachLink, 56, slices.Concat(ofA, ofC)...)
	s.isSum(super, from(Start{c, "C"}, Start{a, "A"}), eachLink, 56, slices.Concat(ofC, ofA)...)
	s.isSum(super, from(Start{f, "F"}, Start{f, "F"}), eachLink, 16, line(8, "F"), line(8, "F"))
}

// P14.2: one that was met, and can't be gone through, hasn't its error again.
func TestSumOfErrorsThatWereMet(t *testing.T) {
	s := newSite(t)
	a := s.dir(0, "a")
	closed := s.dir(a, "closed")
	s.mode(closed, 0)
	bad := s.dir(a, "bad")
	s.unreadable(bad)
	ofA := []Line{
		failed("A/bad", api.ErrIO), line(8, "A/bad"), failed("A/closed", api.ErrAccess), line(8, "A/closed"), line(24, "A"),
	}
	s.isSum(anybody, from(Start{a, "A"}, Start{closed, "C"}, Start{bad, "B"}, Start{a, "A"}), allNodes, 24, ofA...)
	s.isSum(anybody, from(Start{closed, "C"}, Start{closed, "C"}, Start{a, "A"}), allNodes, 24,
		failed("C", api.ErrAccess), line(8, "C"), failed("A/bad", api.ErrIO), line(8, "A/bad"), line(16, "A"))
	s.isSum(anybody, from(Start{a, "A"}, Start{bad, "B"}), eachLink, 32,
		append(slices.Clone(ofA), failed("B", api.ErrIO), line(8, "B"))...)
}

// chain makes a directory in a directory, and so on, with a file in each.
func (s site) chain(length int) []int {
	s.t.Helper()
	dirs := []int{0}
	for len(dirs) <= length {
		at := dirs[len(dirs)-1]
		dirs = append(dirs, s.dir(at, "d"))
		s.file(at, "f", 1)
	}
	return dirs
}

// P14.2: what is deeper than a walk may go isn't met; what stands there where
// it ends counts, but is never over, so that a directory there has no line.
func TestSumOfWhatIsTooDeep(t *testing.T) {
	s := newSite(t)
	dirs := s.chain(api.MaxDepth + 5)
	var want []Line
	for depth := api.MaxDepth - 1; depth >= 0; depth-- {
		want = append(want, line(int64(8+16*(api.MaxDepth-depth)), nameAt(depth)))
	}
	whole := int64(8 + 16*api.MaxDepth)
	s.isSum(super, from(Start{0, "/"}), dirsAlone, whole, want...)
	s.isSum(super, from(Start{0, "/"}), How{Most: api.MaxDepth, Unit: 512}, whole, want...)
	s.isSum(super, from(Start{0, "/"}), How{Most: api.MaxDepth - 2, Unit: 512}, whole, want[1:]...)
	// A file there has its line.
	lines, _ := Sum(s.f, super, from(Start{0, "/"}), allNodes)
	if got, want := lines[0], line(8, nameAt(api.MaxDepth-1)+"/f"); got != want {
		t.Errorf("the first line: %v, want %v", got, want)
	}
	// A start that was met has no line; what is met below it alone has one.
	s.isSum(super, from(Start{0, "/"}, Start{dirs[api.MaxDepth+3], "x"}), dirsAlone, whole+2*16+8,
		append(slices.Clone(want), line(8, "x/d/d"), line(24, "x/d"), line(40, "x"))...)
	s.isSum(super, from(Start{0, "/"}, Start{dirs[api.MaxDepth], "x"}), How{Unit: 512}, whole+5*16, want[len(want)-1])
	s.isSum(super, from(Start{0, "/"}, Start{dirs[api.MaxDepth+1], "x"}), How{Unit: 512}, whole+4*16+8,
		want[len(want)-1], line(4*16+8, "x"))
}

// nameAt is the name of the directory at a depth of a chain.
func nameAt(depth int) string {
	if depth == 0 {
		return "/"
	}
	return strings.Repeat("/d", depth)
}

// P14.2: a directory at the depth at which no walk goes deeper, that can't be
// gone through, isn't tried.
func TestSumOfErrorsThatAreTooDeep(t *testing.T) {
	for _, depth := range []int{api.MaxDepth - 1, api.MaxDepth, api.MaxDepth + 1} {
		s := newSite(t)
		dirs := s.chain(api.MaxDepth + 3)
		s.unreadable(dirs[depth])
		var want []Line
		whole := int64(8 + 16*api.MaxDepth)
		if depth < api.MaxDepth {
			want = append(want, failed(nameAt(depth), api.ErrIO))
			whole -= 16
		}
		want = append(want, line(whole, "/"))
		s.isSum(super, from(Start{0, "/"}), How{Unit: 512}, whole, want...)
	}
}

// P14.2: sums are cut to the greatest int64, and so are their bytes.
func TestSumsThatAreCut(t *testing.T) {
	s := newSite(t)
	a := s.dir(0, "a")
	f := s.file(a, "f", math.MaxInt64)
	names := 510
	for i := range names {
		s.name(a, fmt.Sprint("n", i), f)
	}
	how := How{Most: 0, Unit: 1}
	s.isSum(super, from(Start{a, "a"}), how, math.MaxInt64, line(math.MaxInt64, "a"))
	how.Unit = 1 << 40
	s.isSum(super, from(Start{a, "a"}), how, 1<<23, line(1<<23, "a"))
	how.Each = true
	// 511 times 2 to the 54 blocks, and 8, fit; their bytes don't.
	s.isSum(super, from(Start{a, "a"}), how, 1<<23, line(1<<23, "a"))
	s.isSum(super, from(Start{a, "a"}, Start{a, "a"}), how, 1<<23, line(1<<23, "a"), line(1<<23, "a"))
	for i := range 4 {
		s.name(a, fmt.Sprint("more", i), f)
		s.isSum(super, from(Start{a, "a"}), how, 1<<23, line(1<<23, "a"))
	}
	s.isSum(super, from(Start{f, "f"}, Start{a, "a"}, Start{0, "/"}), how, 1<<23,
		line(1<<23, "f"), line(1<<23, "a"), line(1<<23, "/"))
}

// R5: what is handed in is left as it is, its spare room too, and what is
// answered is new.
func TestSumLeavesWhatIsHandedIn(t *testing.T) {
	s, twin := newSite(t), newSite(t)
	for _, s := range []site{s, twin} {
		a := s.dir(0, "a")
		s.name(a, "g", s.file(a, "f", 1))
		s.unreadable(s.dir(a, "bad"))
		s.file(s.cover(s.dir(a, "d")), "f", 1)
	}
	starts := make([]Start, 2, 5)
	spare := starts[:5]
	copy(spare, from(Start{1, "a"}, Start{0, "/"}, Start{2, "x"}, Start{1, "y"}, Start{0, "z"}))
	kept := slices.Clone(spare)
	for _, how := range []How{dirsAlone, allNodes, eachLink} {
		lines, whole := Sum(s.f, anybody, starts, how)
		want := slices.Clone(lines)
		for i := range lines {
			lines[i] = Line{77, "spoilt", 7}
		}
		_ = append(lines, Line{})
		s.isSum(anybody, starts, how, whole, want...)
		if !slices.Equal(spare, kept) {
			t.Errorf("%+v: the starts are %v, were %v", how, spare, kept)
		}
	}
	if !s.f.Same(twin.f) {
		t.Error("the file system was changed")
	}
}
