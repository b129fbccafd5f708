package list

import (
	"cmp"
	"fmt"
	"math"
	"math/big"
	"math/rand"
	"slices"
	"strings"
	"testing"

	"domesday/api"
	"domesday/layout"
	"domesday/order"
	"domesday/quote"
	"domesday/stamp"
	"domesday/vfs"
)

// pick draws one of a list.
func pick[T any](r *rand.Rand, l ...T) T {
	return l[r.Intn(len(l))]
}

// names are those that are drawn.
var names = []string{
	"a", "b", "c", "B", ".h", "..a", "-", "a.c", "b.a", "x.", "e9", "e10", "e010", "\xff", "\u3042", "z z", "it's", "e\u0301", "n\nl", `"`, "\t",
}

// drawn is a file system that is drawn by so many changes of all kinds.
func drawn(t *testing.T, r *rand.Rand, changes int) site {
	s := newSite(t)
	for range changes {
		c := vfs.Change{
			Kind: pick(r, 0, 0, 1, 1, 1, 1, 2, 2, 3, 3, 4, 5, 5, 6, 6, 6, 7, 8), At: r.Intn(s.f.Count()), To: r.Intn(s.f.Count()),
			A: r.Intn(010000), B: pick(r, 0, 7, 42, 1000), Name: pick(r, names...), Text: pick(r, "..", "/", "a b", "gone\n", "it's", "\xff"),
			N: pick[int64](r, 0, 1, 4096, 4097, 1<<20, math.MaxInt64, r.Int63(), r.Int63n(100000)),
		}
		switch c.Kind {
		case 5:
			c.A = pick(r, 0, 1, 12, 1000, math.MaxInt)
		case 6:
			c.A, c.N = r.Intn(3), pick(r, -c.N, c.N, 1, 2, 3)
		}
		// What is refused changes nothing.
		s.f.Do(c)
	}
	return s
}

// drawList draws the entries of a directory, or some others.
func (s site) drawList(r *rand.Rand) []api.Entry {
	if l, err := s.f.List(r.Intn(s.f.Count())); err == api.OK && r.Intn(3) > 0 {
		return l
	}
	var l []api.Entry
	for range r.Intn(12) {
		l = append(l, entry(pick(r, append(names, "", "c/d", strings.Repeat("w", r.Intn(300)))...), r.Intn(s.f.Count()+4)-2))
	}
	return l
}

// drawHow draws how a list is written.
func drawHow(r *rand.Rand) How {
	return How{
		Form: pick(r, 0, 1, 2, 3, 4, 4, 4, 5, -1), Most: pick(r, 0, -1, 1, 10, 20, 40, 80, r.Intn(200), math.MaxInt, math.MinInt),
		Order: pick(r, 0, 1, 2, 3, 4, 5, -1), Reverse: r.Intn(2) == 0, Dirs: r.Intn(3) == 0,
		Clock: pick(r, 0, 1, 2, 3, -1), Quote: r.Intn(8) - 1, Mark: r.Intn(2) == 0,
		Inode: r.Intn(3) == 0, Blocks: r.Intn(3) == 0,
		Style: r.Intn(6) - 1, Own: pick(r, "", "%F", "%s", "x %%"),
		Now: pick[int64](r, 0, 3, 1e9, r.Int63(), math.MaxInt64), Offset: pick(r, 0, 3600, -5400, 86401, math.MaxInt, math.MinInt),
	}
}

// known is an entry, with all that a row tells of its node, worked out anew.
type known struct {
	entry            api.Entry
	node             api.Node
	time             int64
	inode, blocks    string
	links, uid, gid  string
	size, when, name string
	dir              bool
}

// know finds what there is to tell, in the order in which the entries stand.
func (s site) know(l []api.Entry, how How) []known {
	var all []known
	for _, e := range l {
		if e.Id < 0 || e.Id >= s.f.Count() {
			continue
		}
		at := s.f.Over(e.Id)
		n, _ := s.f.Node(at)
		k := known{entry: e, node: n, time: n.Times[1], dir: s.f.Up(at) >= 0}
		if how.Clock == 0 || how.Clock == 2 {
			k.time = n.Times[how.Clock]
		}
		k.inode, k.blocks = fmt.Sprint(n.Ino), fmt.Sprint(n.Blocks/2+n.Blocks%2)
		k.links, k.uid, k.gid, k.size = fmt.Sprint(n.Links), fmt.Sprint(n.Uid), fmt.Sprint(n.Gid), fmt.Sprint(n.Size)
		k.when = stamp.Style(how.Style, how.Own, k.time, how.Now, how.Offset)
		k.name = quote.Quote(how.Quote, e.Name)
		text, err := s.f.Link(at)
		if how.Mark {
			k.name += k.mark(err != api.ErrArg)
		}
		if how.Form == 4 && err != api.ErrArg {
			k.name += " -> " + quote.Quote(how.Quote, text)
		}
		all = append(all, k)
	}
	return all
}

// mark is what stands behind a name, if it is a link's or another one's.
func (k known) mark(link bool) string {
	switch {
	case k.dir:
		return "/"
	case link:
		return "@"
	case k.node.Mode&0111 != 0:
		return "*"
	}
	return ""
}

// extension is what a name has from its last point on, but not from its first
// byte on.
func extension(name string) string {
	for at := len(name) - 1; at > 0; at-- {
		if name[at] == '.' {
			return name[at:]
		}
	}
	return ""
}

// compare tells which of two is ahead, if nothing is reversed.
func (k known) compare(other known, by int) int {
	first := 0
	switch by {
	case 1:
		first = cmp.Compare(other.node.Size, k.node.Size)
	case 2:
		first = cmp.Compare(other.time, k.time)
	case 3:
		first = strings.Compare(extension(k.entry.Name), extension(other.entry.Name))
	case 4:
		first = order.Version(k.entry.Name, other.entry.Name)
	}
	if first == 0 {
		first = strings.Compare(k.entry.Name, other.entry.Name)
	}
	return first
}

// arrange puts what is known in order.
func arrange(all []known, how How) {
	if how.Order < 0 || how.Order > 4 {
		return
	}
	slices.SortStableFunc(all, func(a, b known) int {
		if how.Dirs && a.dir != b.dir {
			if a.dir {
				return -1
			}
			return 1
		}
		if how.Reverse {
			return -a.compare(b, how.Order)
		}
		return a.compare(b, how.Order)
	})
}

// longest tells how long the longest one of some texts is.
func longest(all []known, of func(k known) string) int {
	most := 0
	for _, k := range all {
		most = max(most, len(of(k)))
	}
	return most
}

// rowsAnew is what Rows should answer of what is known, in order.
func rowsAnew(all []known, how How) []string {
	inodes, blocks := longest(all, func(k known) string { return k.inode }), longest(all, func(k known) string { return k.blocks })
	links, size := longest(all, func(k known) string { return k.links }), longest(all, func(k known) string { return k.size })
	uids, gids := longest(all, func(k known) string { return k.uid }), longest(all, func(k known) string { return k.gid })
	var rows []string
	for _, k := range all {
		row := ""
		if how.Inode {
			row += fmt.Sprintf("%*s ", inodes, k.inode)
		}
		if how.Blocks {
			row += fmt.Sprintf("%*s ", blocks, k.blocks)
		}
		if how.Form == 4 {
			row += fmt.Sprintf("%s %*s %*s %*s %*s %s ", letters(k), links, k.links, uids, k.uid, gids, k.gid, size, k.size, k.when)
		}
		rows = append(rows, row+k.name)
	}
	switch how.Form {
	case 1:
		return layout.Down(rows, how.Most)
	case 2:
		return layout.Across(rows, how.Most)
	case 3:
		return layout.Commas(rows, how.Most)
	}
	return rows
}

// letters are a long row's first ones.
func letters(k known) string {
	told := []byte("-drwxrwxrwx")[1:]
	told[0] = "?-dl"[k.node.Kind]
	for at := range 9 {
		if k.node.Mode>>(8-at)&1 == 0 {
			told[at+1] = '-'
		}
	}
	for at, special := range []string{"sS", "sS", "tT"} {
		if k.node.Mode>>(11-at)&1 == 1 {
			letter := &told[3+3*at]
			if *letter == 'x' {
				*letter = special[0]
			} else {
				*letter = special[1]
			}
		}
	}
	return string(told)
}

// totalAnew is what Total should answer.
func totalAnew(all []known) int64 {
	sum := new(big.Int)
	for _, k := range all {
		sum.Add(sum, big.NewInt(k.node.Blocks))
	}
	if !sum.IsInt64() {
		return 1 << 62
	}
	return sum.Add(sum, big.NewInt(1)).Int64() / 2
}

// P15.1: over many file systems each row is held against its entry.
func TestListsInDrawnFileSystems(t *testing.T) {
	links, devices, lacking, rows := 0, 0, 0, 0
	for seed := range 300 {
		r := rand.New(rand.NewSource(int64(seed)))
		s := drawn(t, r, 20+r.Intn(300))
		for range 60 {
			l, how := s.drawList(r), drawHow(r)
			all := s.know(l, how)
			s.isTotal(l, totalAnew(all))
			arrange(all, how)
			var sorted []api.Entry
			for _, k := range all {
				sorted = append(sorted, k.entry)
				if k.node.Kind == api.Link {
					links++
				}
				if s.f.Over(k.entry.Id) != k.entry.Id {
					devices++
				}
			}
			s.isSorted(l, how, sorted...)
			s.isRows(l, how, rowsAnew(all, how)...)
			lacking, rows = lacking+len(l)-len(all), rows+len(all)
		}
		if t.Failed() {
			t.Fatalf("in the file system %d", seed)
		}
	}
	if links < 1000 || devices < 1000 || lacking < 1000 || rows < 30000 {
		t.Errorf("too little was met: %d links, %d devices, %d entries of no nodes, %d rows", links, devices, lacking, rows)
	}
}

// P15.2: each entry has its name in a row, in order, where there is one a row.
func TestEachEntryHasItsRow(t *testing.T) {
	for seed := range 200 {
		r := rand.New(rand.NewSource(int64(5000 + seed)))
		s := drawn(t, r, 20+r.Intn(200))
		for range 40 {
			l, how := s.drawList(r), drawHow(r)
			how.Form, how.Quote, how.Mark = pick(r, 0, 4, -1, 5), r.Intn(6), false
			sorted, rows := Sorted(s.f, l, how), Rows(s.f, l, how)
			if len(rows) != len(sorted) {
				t.Fatalf("in the file system %d, %+v: %d rows of %d entries", seed, how, len(rows), len(sorted))
			}
			for at, e := range sorted {
				want := quote.Quote(how.Quote, e.Name)
				if text, err := s.f.Link(e.Id); how.Form == 4 && err != api.ErrArg {
					want += " -> " + quote.Quote(how.Quote, text)
				}
				if !strings.HasSuffix(rows[at], want) {
					t.Fatalf("in the file system %d, %+v: the row %d is %q, of %q", seed, how, at, cut(rows[at]), cut(want))
				}
			}
			s.isPermutation(l, sorted)
		}
	}
}

// isPermutation holds the entries that were answered against those that were
// handed in: all of them, but those of no nodes, each as often.
func (s site) isPermutation(l, sorted []api.Entry) {
	s.t.Helper()
	left := slices.DeleteFunc(slices.Clone(l), func(e api.Entry) bool { return e.Id < 0 || e.Id >= s.f.Count() })
	for _, e := range sorted {
		at := slices.Index(left, e)
		if at < 0 {
			s.t.Fatalf("Sorted of %v has %v once more", l, e)
		}
		left = slices.Delete(left, at, at+1)
	}
	if len(left) > 0 {
		s.t.Fatalf("Sorted of %v lacks %v", l, left)
	}
}

// P15.2: so it is of all lists of few, in every order in which they stand.
func TestAllOrdersOfFew(t *testing.T) {
	s := newSite(t)
	five := ordered(s)
	var try func(taken, left []api.Entry)
	try = func(taken, left []api.Entry) {
		for order := range 5 {
			how := How{Order: order}
			all := s.know(taken, how)
			arrange(all, how)
			want := rowsAnew(all, how)
			s.isRows(taken, how, want...)
			slices.Reverse(want)
			how.Reverse = true
			// No two are alike, so that the reverse is just that.
			s.isRows(taken, how, want...)
		}
		for at, e := range left {
			try(append(slices.Clone(taken), e), slices.Concat(left[:at], left[at+1:]))
		}
	}
	try(nil, five)
}

// R5, P6.5: asking changes nothing, and is answered alike again.
func TestListsChangeNothing(t *testing.T) {
	for seed := range 40 {
		s := drawn(t, rand.New(rand.NewSource(int64(seed))), 150)
		twin := drawn(t, rand.New(rand.NewSource(int64(seed))), 150)
		r := rand.New(rand.NewSource(int64(seed)))
		for range 30 {
			l, how := s.drawList(r), drawHow(r)
			kept := slices.Clone(l)
			sorted, rows, total := Sorted(s.f, l, how), Rows(s.f, l, how), Total(s.f, l)
			s.isSorted(kept, how, sorted...)
			s.isRows(kept, how, rows...)
			s.isTotal(kept, total)
			if !slices.Equal(l, kept) {
				t.Fatalf("in the file system %d: the entries were changed", seed)
			}
		}
		if !s.f.Same(twin.f) {
			t.Errorf("the file system %d was changed", seed)
		}
	}
}
