package tool

import (
	"fmt"
	"math"
	"math/big"
	"math/rand"
	"slices"
	"strings"
	"testing"

	"domesday/api"
	"domesday/path"
	"domesday/quote"
	"domesday/vfs"
)

// worlds draws so many worlds, and does something in each.
func worlds(t *testing.T, count int, do func(r *rand.Rand, w world)) {
	t.Helper()
	for seed := range count {
		r := rand.New(rand.NewSource(int64(5000 + seed)))
		do(r, drawn(t, r, 20+r.Intn(250)))
		if t.Failed() {
			t.Fatalf("in the file system %d", seed)
		}
	}
}

// P1: what is wrong with one operand leaves the others: each is told as if it
// were the only one.
func TestOperandsLeaveOneAnother(t *testing.T) {
	worlds(t, 100, func(r *rand.Rand, w world) {
		for range 20 {
			w.drawEnv(r)
			command := pick(r, []string{"stat", "--"}, []string{"stat", "-L", "--"}, []string{"readlink", "--"}, []string{"readlink", "-f", "--"},
				[]string{"realpath", "--"}, []string{"realpath", "-q", "--"}, []string{"du", "-la", "--"})
			var want result
			all := slices.Clone(command)
			for range 1 + r.Intn(6) {
				operand := w.drawPath(r)
				one := w.run(append(slices.Clone(command), operand)...)
				want = result{want.out + one.out, want.err + one.err, max(want.status, one.status)}
				all = append(all, operand)
			}
			if command[0] == "du" {
				// The messages of operands are ahead of the others.
				want.err = w.run(all...).err
			}
			w.is(want, all)
		}
	})
}

// P1: whatever the arguments, a run ends, what it writes are rows with their
// ends, and its status tells what is wrong.
func TestAnyArguments(t *testing.T) {
	worlds(t, 100, func(r *rand.Rand, w world) {
		for range 200 {
			w.drawEnv(r)
			args := []string{pick(r, toolNames...)}
			for range r.Intn(6) {
				word := make([]byte, r.Intn(6))
				for i := range word {
					word[i] = pick(r, '-', '-', '=', 'a', 'l', 's', 'd', 'w', '1', '0', '/', '.', byte(r.Intn(256)))
				}
				args = append(args, string(word))
			}
			got := w.run(args...)
			quiet := args[0] == "realpath" && slices.ContainsFunc(args, func(arg string) bool { return strings.HasPrefix(arg, "-") })
			switch {
			case got.status < 0 || got.status > 2,
				got.out != "" && !strings.HasSuffix(got.out, "\n"),
				got.err != "" && !strings.HasSuffix(got.err, "\n"),
				got.status == 2 && got.out != "",
				got.status == 0 && got.err != "",
				got.status != 0 && got.err == "" && !quiet:
				w.errorf("%q: %s", args, got)
			}
		}
	})
}

// P2: behind a run the file system is as it was, and so are the arguments, and
// what stands in memory behind them.
func TestRunsChangeNothing(t *testing.T) {
	for seed := range 100 {
		w := drawn(t, rand.New(rand.NewSource(int64(seed))), 200)
		twin := drawn(t, rand.New(rand.NewSource(int64(seed))), 200)
		r := rand.New(rand.NewSource(int64(seed)))
		for range 50 {
			w.drawEnv(r)
			args := append(w.drawArgs(r), "behind", "-l", "")
			kept := slices.Clone(args)
			want := twin.site
			want.who, want.env = w.who, w.env
			w.is(want.run(slices.Clone(args[:len(args)-3])...), args[:len(args)-3])
			if !slices.Equal(args, kept) {
				t.Fatalf("in the file system %d: the arguments %q became %q", seed, kept, args)
			}
			if !w.f.Same(drawn(t, rand.New(rand.NewSource(int64(seed))), 200).f) {
				t.Fatalf("in the file system %d: it was changed by %q", seed, args[:len(args)-3])
			}
		}
	}
}

// P2: two runs, one behind the other, in either order.
func TestRunsInEitherOrder(t *testing.T) {
	worlds(t, 60, func(r *rand.Rand, w world) {
		w.drawEnv(r)
		one := w.site
		w.drawEnv(r)
		other := w.site
		for range 40 {
			a, b := w.drawArgs(r), w.drawArgs(r)
			first, second := one.run(a...), other.run(b...)
			other.is(second, b)
			one.is(first, a)
			other.is(second, b)
			one.is(first, a)
		}
	})
}

// P2: two file systems don't hang on one another.
func TestTwoFileSystems(t *testing.T) {
	s, other := newSite(t), newSite(t)
	s.dir(0, "d")
	other.files(0, "f")
	s.tells("ls", "d")
	other.tells("ls", "f")
	s.tells("du", "4\t./d", "8\t.")
	other.tells("du", "4\t.")
	s.files(1, "g")
	s.tells("ls", "d")
	s.tells("ls d", "g")
	other.tells("ls", "f")
}

// below is a node as it is met in a directory, and its path.
type below struct {
	node api.Node
	path string
}

// all are all entries that who may see all meets in a directory and below it,
// each once, and what can't be read.
func all(f *vfs.FS, id int, at string) ([]below, int) {
	l, err := f.List(id)
	if err != api.OK {
		return nil, 1
	}
	var found []below
	bad := 0
	for _, e := range l {
		next := f.Over(e.Id)
		node, _ := f.Node(next)
		found = append(found, below{node, at + "/" + e.Name})
		if node.Kind == api.Dir {
			more, worse := all(f, next, at+"/"+e.Name)
			found, bad = append(found, more...), bad+worse
		}
	}
	return found, bad
}

// key is what a node is known by, wherever it is met.
type key struct{ dev, ino int }

// once are those of what was met that are met for the first time.
func once(l []below) []below {
	met := map[key]bool{}
	var first []below
	for _, b := range l {
		if k := (key{b.node.Dev, b.node.Ino}); !met[k] {
			met[k] = true
			first = append(first, b)
		}
	}
	return first
}

// bytes are those of the blocks of some nodes.
func bytes(l []below) *big.Int {
	sum := new(big.Int)
	for _, b := range l {
		sum.Add(sum, big.NewInt(b.node.Blocks))
	}
	return sum.Lsh(sum, 9)
}

// units are the blocks of some nodes, in units of so many bytes, cut to what an
// int64 holds ahead of that.
func units(l []below, unit int64) string {
	sum := bytes(l)
	if !sum.IsInt64() {
		sum.SetInt64(math.MaxInt64)
	}
	sum.Add(sum, big.NewInt(unit-1))
	return sum.Div(sum, big.NewInt(unit)).String()
}

// P3, P17.2: of what can be read du's whole is the blocks of all nodes that are
// met, each once; with l, of all entries.
func TestSums(t *testing.T) {
	shared, covered, several := 0, 0, 0
	worlds(t, 500, func(r *rand.Rand, w world) {
		top, _ := w.f.Node(0)
		each, bad := all(w.f, 0, "")
		if bad > 0 {
			return
		}
		each = append(each, below{top, "/"})
		if len(once(each)) < len(each) {
			shared++
		}
		if len(w.f.Devices()) > 1 {
			covered++
		}
		for _, unit := range []int64{512, 1, 1024, 4096, 1000, 65535} {
			w.tells(fmt.Sprintf("du -s -B%d", unit), units(once(each), unit)+"\t.")
			w.tells(fmt.Sprintf("du -lsB %d /", unit), units(each, unit)+"\t/")
		}
		if bytes(each).IsInt64() {
			several++
			w.isSumOfSome(r, each, "-s", "-B512")
			w.isSumOfSome(r, each, "-ls", "-B512")
		}
	})
	if shared < 50 || covered < 50 || several < 50 {
		t.Errorf("too little was met: %d file systems with files of two names, %d with devices, %d of several operands", shared, covered, several)
	}
}

// isSumOfSome holds the sum of some operands against the blocks of all that is
// met from them.
func (w *world) isSumOfSome(r *rand.Rand, from []below, how ...string) {
	w.t.Helper()
	var operands []string
	var met []below
	for range 1 + r.Intn(6) {
		start := pick(r, from...)
		operands = append(operands, start.path)
		more := []below{start}
		if start.node.Kind == api.Dir {
			place, _ := path.Walk(w.f, root, start.path, false)
			inside, _ := all(w.f, place.Id, "")
			more = append(inside, start)
		}
		met = append(met, more...)
	}
	if how[0] == "-s" {
		met = once(met)
	}
	got := w.run(slices.Concat([]string{"du"}, how, []string{"--"}, operands)...)
	sum, left := new(big.Int), got.out
	for _, operand := range operands {
		told, behind, ok := strings.Cut(left, "\t"+operand+"\n")
		if n, good := new(big.Int).SetString(told, 10); ok && good {
			sum.Add(sum, n)
			left = behind
		}
	}
	if want := bytes(met); left != "" || got.err != "" || got.status != 0 || sum.Lsh(sum, 9).Cmp(want) != 0 {
		w.errorf("du of %q: %s\nin all %d bytes, want %d", operands, got, sum, want)
	}
}

// P4, P17.2: each walk visits each entry once, and ends.
func TestEachEntryOnce(t *testing.T) {
	most := 0
	worlds(t, 300, func(r *rand.Rand, w world) {
		each, bad := all(w.f, 0, ".")
		var want []string
		for _, b := range each {
			want = append(want, b.path+"\n")
		}
		most = max(most, len(each))
		want = append(want, ".\n")
		slices.Sort(want)
		got := w.run("du", "-la", "-B", "65535")
		w.isOnce(got.out, want)
		dirs := 0
		for _, b := range each {
			if b.node.Kind == api.Dir {
				dirs++
			}
		}
		got = w.run("tree", "-a")
		if end := fmt.Sprintf("\n\n%d directories, %d files\n", dirs, len(each)-dirs); !strings.HasSuffix(got.out, end) || got.status != min(bad, 1) {
			w.errorf("tree: %s, want %q at the end", got, end)
		}
		if n := strings.Count(got.out, "\u2500\u2500 "); n != len(each) {
			w.errorf("tree: %d entries, want %d: %s", n, len(each), got)
		}
		if n := strings.Count(got.err, "\n") - strings.Count(got.err, "n\nl"); n != bad {
			w.errorf("tree: %d messages, want %d: %s", n, bad, got)
		}
	})
	if most < 50 {
		t.Errorf("too little was met: %d entries", most)
	}
}

// isOnce holds the names that du tells, each behind a tab, against those that
// it should tell, each once.
func (w *world) isOnce(out string, want []string) {
	w.t.Helper()
	var got []string
	for _, part := range strings.Split(out, "\t")[1:] {
		// What stands behind a name, but of the last one, are the next one's units.
		got = append(got, part[:strings.LastIndexByte(part, '\n')+1])
	}
	slices.Sort(got)
	if !slices.Equal(got, want) {
		w.errorf("du of all tells of %d names, want %d:%s\nwant%s", len(got), len(want), told(got), told(want))
	}
}

// P4: links to what is above lead no walk round.
func TestLinksToAbove(t *testing.T) {
	s := newSite(t)
	d := s.dir(0, "d")
	s.link(d, "up", "..")
	s.link(d, "here", ".")
	s.link(d, "self", "self")
	s.link(0, "down", "d/up/d")
	s.tells("du -a", "0\t./d/here", "0\t./d/self", "0\t./d/up", "4\t./d", "0\t./down", "8\t.")
	s.tells("tree", append(lines(".", "|-- d", "I.. |-- here", "I.. |-- self", "I.. L-- up", "L-- down"), "", "1 directories, 4 files")...)
	s.tells("ls down/up/d/here/up", "d", "down")
}

// P5, P17.2: realpath tells a path just if it is walked to a node; what it tells
// is absolute, without empty names, points and links, comes to the same node,
// and is its own real path.
func TestRealPaths(t *testing.T) {
	told, through := 0, 0
	worlds(t, 300, func(r *rand.Rand, w world) {
		for range 40 {
			w.drawEnv(r)
			operand := w.drawPath(r)
			place, err := path.Walk(w.f, w.who, operand, true)
			got := w.run("realpath", "--", operand)
			if (got.status == 0) != (err == api.OK) || (got.out == "") == (err == api.OK) || (got.err == "") != (err == api.OK) {
				w.errorf("realpath of %q: %s, walked: %s", operand, got, errorNames[err])
			}
			if err != api.OK {
				continue
			}
			told++
			if place.Hops > 0 {
				through++
			}
			w.isReal(operand, strings.TrimSuffix(got.out, "\n"), place)
		}
	})
	if told < 1000 || through < 100 {
		t.Errorf("too little was met: %d real paths, %d through links", told, through)
	}
}

// isReal holds a real path against what it should be.
func (w *world) isReal(operand, real string, place path.Place) {
	w.t.Helper()
	if place.Hops > api.MaxHops {
		w.errorf("realpath of %q is told behind %d links", operand, place.Hops)
	}
	names := strings.Split(strings.TrimPrefix(real, "/"), "/")
	if !strings.HasPrefix(real, "/") || real != "/" && slices.ContainsFunc(names, func(name string) bool { return name == "" || name == "." || name == ".." }) {
		w.errorf("realpath of %q: %q", operand, real)
	}
	// No link is followed on the way, and none stands at the end.
	again, err := path.Walk(w.f, w.who, real, true)
	if err != api.OK || again.Id != place.Id || again.Hops != 0 {
		w.errorf("realpath of %q: %q, which comes to %d behind %d links, %s; want %d", operand, real, again.Id, again.Hops, errorNames[err], place.Id)
	}
	w.tellsArgs(args("realpath", real), real)
	w.tellsArgs(args("readlink", "-f", "--", operand), real)
	w.failsArgs(args("readlink", real), errs("readlink: "+quote.Quote(2, real)+": Invalid argument"))
	w.is(w.run("stat", "-Lc%d:%i", "--", operand), args("stat", "-c", "%d:%i", real))
}

// P6, P17.2: what is quoted is read as it was, by C and by a shell.
func TestQuotesAreReadBack(t *testing.T) {
	worlds(t, 200, func(r *rand.Rand, w world) {
		found, _ := all(w.f, 0, "")
		for _, b := range found {
			got := w.run("ls", "-Qd", b.path)
			w.isC(got.out, b.path)
			if !strings.ContainsAny(b.path, "\n\xff") && b.node.Kind != api.Link {
				w.isShell(w.run("stat", "-c", "%N", b.path).out, "", b.path, "\n")
			}
			if name := b.path + "/x"; b.node.Kind == api.File {
				w.isShell(w.run("realpath", name).err, "realpath: ", name, ": Not a directory\n")
			}
		}
		operand := w.drawPath(r) + "/" + pick(r, names...) + "/gone\n'" + pick(r, names...)
		for _, tool := range toolNames {
			message := w.run(tool, "--", operand).err
			w.isShell(message, tool+": ", operand, message[strings.LastIndexByte(message, ':'):])
			w.isShell(w.run(tool, "-?"+operand).err, tool+": invalid argument ", "-?"+operand, "\n")
		}
	})
	// Every byte, alone and between others.
	s := newSite(t)
	id := s.file(0, "f", 0)
	for b := range 256 {
		one := string([]byte{byte(b)})
		for _, name := range []string{one, one + "b" + one, "'" + one + "\""} {
			if vfs.Good(name) && name != "f" {
				s.name(0, name, id)
			}
		}
	}
	for _, e := range entries(s, 0) {
		s.isC(s.run("ls", "-Q", "--", e.Name).out, e.Name)
		s.isShell(s.run("df", "-B", e.Name+"x").err, "df: invalid argument ", e.Name+"x", "\n")
	}
	var names []string
	for row := range strings.Lines(s.run("ls", "-aQ").out) {
		name, _ := quote.C(strings.TrimSuffix(row, "\n"))
		names = append(names, name)
	}
	if !slices.EqualFunc(names, entries(s, 0), func(name string, e entry) bool { return name == e.Name }) {
		t.Errorf("ls -Q is read back as %s", cut(fmt.Sprintf("%q", names)))
	}
}
