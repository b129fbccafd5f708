package facts

import (
	"fmt"
	"math"
	"math/big"
	"math/rand"
	"regexp"
	"slices"
	"strings"
	"testing"

	"domesday/api"
	"domesday/quote"
	"domesday/vfs"
)

// pick draws one of a list.
func pick[T any](r *rand.Rand, l ...T) T {
	return l[r.Intn(len(l))]
}

// names are those that are drawn.
var names = []string{"a", "b", "c", ".h", "-", "%n", "\xff", "\u3042", "z z", "it's", "n\nl", `"`}

// world is a file system that is drawn, and what was noted of it.
type world struct {
	site
	// blocks are those of all nodes, by their devices, from 1 on.
	blocks []*big.Int
	// paths are those of directories, without the root's /.
	paths map[int]string
	bad   map[int]bool
	texts map[int]string
}

// drawn is a world that is drawn by so many changes of all kinds.
func drawn(t *testing.T, r *rand.Rand, changes int) world {
	w := world{newSite(t), []*big.Int{nil, big.NewInt(8)}, map[int]string{0: ""}, map[int]bool{}, map[int]string{}}
	for range changes {
		c := vfs.Change{
			Kind: pick(r, 0, 0, 1, 1, 1, 1, 2, 2, 3, 3, 4, 5, 5, 6, 6, 6, 7, 7, 8), At: r.Intn(w.f.Count()), To: r.Intn(w.f.Count()),
			A: r.Intn(010000), B: pick(r, 0, 7, 42, 1000), Name: pick(r, names...), Text: pick(r, "..", "/", "a b", "gone\n", "it's", "\xff"),
			N: pick[int64](r, 0, 0, 1, 4096, 4097, 1<<20, math.MaxInt64, r.Int63(), r.Int63n(100000)),
		}
		switch c.Kind {
		case 5:
			c.A = pick(r, 0, 1, 12, 1000, math.MaxInt)
		case 6:
			c.A, c.N = r.Intn(3), pick(r, -c.N, c.N, 1, 2, 3)
		}
		if id, err := w.f.Do(c); err == api.OK {
			w.note(c, id)
		}
	}
	return w
}

// note takes notes of a change that was taken.
func (w *world) note(c vfs.Change, id int) {
	at, _ := w.f.Node(c.At)
	switch c.Kind {
	case 0:
		w.paths[id] = w.paths[c.At] + "/" + c.Name
		w.count(at.Dev, 8)
	case 1:
		w.count(at.Dev, c.N/4096*8)
		if c.N%4096 > 0 {
			w.count(at.Dev, 8)
		}
	case 3:
		w.texts[id] = c.Text
	case 7:
		w.paths[id] = w.paths[c.To]
		w.blocks = append(w.blocks, big.NewInt(8))
	case 8:
		w.bad[c.To] = true
	}
}

// count notes that a device has so many blocks more.
func (w *world) count(dev int, blocks int64) {
	w.blocks[dev].Add(w.blocks[dev], big.NewInt(blocks))
}

// rowsAnew are the rows that there should be, but for where the devices are.
func (w *world) rowsAnew(all int64) []Row {
	var rows []Row
	for dev := 1; dev < len(w.blocks); dev++ {
		used := new(big.Int).Add(w.blocks[dev], big.NewInt(1))
		used.Rsh(used, 1)
		row := Row{Dev: dev, All: max(all, 0), Used: used.Int64(), Percent: 100}
		if row.All > row.Used {
			row.Left = row.All - row.Used
			parts := new(big.Int).Mul(used, big.NewInt(100))
			parts.Add(parts, big.NewInt(row.All-1))
			row.Percent = parts.Div(parts, big.NewInt(row.All)).Int64()
		}
		rows = append(rows, row)
	}
	return rows
}

// isWhere holds where a device is against what was noted: what is told leads
// from directory to directory to the device's first, and where it isn't told,
// it doesn't.
func (w *world) isWhere(first int, told string) {
	w.t.Helper()
	path := w.paths[first]
	if path == "" {
		path = "/"
	}
	if w.leads(first) {
		if told != path {
			w.t.Errorf("the device of %d is at %q, want %q", first, told, path)
		}
	} else if told != "?" {
		w.t.Errorf("the device of %d is at %q, want ?", first, told)
	}
}

// leads tells if one comes to a directory by the names that were noted.
func (w *world) leads(first int) bool {
	at := 0
	for name := range strings.SplitSeq(w.paths[first], "/") {
		if name == "" {
			continue
		}
		l, _ := w.f.List(at)
		i := slices.IndexFunc(l, func(e api.Entry) bool { return e.Name == name })
		if w.bad[at] || i < 0 {
			return false
		}
		at = w.f.Over(l[i].Id)
	}
	return at == first
}

// directive is one, wherever it stands.
var directive = regexp.MustCompile(`(?s)%[nNsbaAugidhFXYZ%]`)

// formatAnew is what Format should answer.
func (w *world) formatAnew(id int, name, format string) string {
	n, _ := w.f.Node(id)
	const style = 1
	quoted, kind := quote.Quote(style, name), "regular file"
	_, isDir := w.paths[id]
	text, isLink := w.texts[id]
	switch {
	case isDir:
		kind = "directory"
	case isLink:
		kind = "symbolic link"
		if w.bad[id] {
			text = ""
		}
		quoted = strings.Join([]string{quoted, quote.Quote(style, text)}, " -> ")
	case n.Blocks == 0:
		kind = "regular empty file"
	}
	return directive.ReplaceAllStringFunc(format, func(d string) string {
		if d == "%A" {
			return letters(n)
		}
		return map[string]string{
			"%n": name, "%N": quoted, "%s": fmt.Sprint(n.Size), "%b": fmt.Sprint(n.Blocks), "%a": fmt.Sprintf("%o", n.Mode),
			"%u": fmt.Sprint(n.Uid), "%g": fmt.Sprint(n.Gid), "%i": fmt.Sprint(n.Ino), "%d": fmt.Sprint(n.Dev), "%h": fmt.Sprint(n.Links),
			"%F": kind, "%X": fmt.Sprint(n.Times[0]), "%Y": fmt.Sprint(n.Times[1]), "%Z": fmt.Sprint(n.Times[2]), "%%": "%",
		}[d]
	})
}

// letters are those of a node's kind and mode.
func letters(n api.Node) string {
	told := []byte("?rwxrwxrwx")
	told[0] = "?-dl"[n.Kind]
	for at := range 9 {
		if n.Mode>>(8-at)&1 == 0 {
			told[at+1] = '-'
		}
	}
	for at, special := range []string{"sS", "sS", "tT"} {
		if n.Mode>>(11-at)&1 == 1 {
			letter := &told[3+3*at]
			if *letter == 'x' {
				*letter = special[0]
			} else {
				*letter = special[1]
			}
		}
	}
	return string(told)
}

// drawFormat draws a format of directives, what is nearly one, and bytes.
func drawFormat(r *rand.Rand) string {
	var out strings.Builder
	for range r.Intn(12) {
		switch r.Intn(4) {
		case 0:
			out.WriteString(pick(r, "%", "%%", "%%%", " ", "n", "s", "%q", "%\xff", "\u3042", "%\n", "\x00", "%5s"))
		case 1:
			out.Write([]byte{byte(r.Intn(256))})
		default:
			out.WriteString("%" + string(directives[r.Intn(len(directives))]))
		}
	}
	return out.String()
}

// drawAll draws so many units in all.
func drawAll(r *rand.Rand, w world) int64 {
	near := pick(r, Rows(w.f, 0)...).Used + pick[int64](r, -1, 0, 1)
	return pick(r, 0, -1, 1, near, near, r.Int63n(1000), r.Int63n(1e7), r.Int63(), math.MaxInt64, math.MinInt64, -r.Int63())
}

// P16.1: over many file systems, names and formats.
func TestFormatsInDrawnFileSystems(t *testing.T) {
	links, dirs, files := 0, 0, 0
	for seed := range 200 {
		r := rand.New(rand.NewSource(int64(seed)))
		w := drawn(t, r, 20+r.Intn(300))
		for id := range w.f.Count() {
			for range 20 {
				name, format := pick(r, append(names, "", "x/y")...), drawFormat(r)
				w.isFormat(id, name, format, w.formatAnew(id, name, format))
			}
			switch node, _ := w.f.Node(id); node.Kind {
			case api.File:
				files++
			case api.Dir:
				dirs++
			case api.Link:
				links++
			}
		}
		for range 20 {
			w.noFormat(pick(r, -1-r.Int(), w.f.Count()+r.Intn(1000)), pick(r, names...), drawFormat(r))
		}
		if t.Failed() {
			t.Fatalf("in the file system %d", seed)
		}
	}
	if links < 500 || dirs < 500 || files < 500 {
		t.Errorf("too little was met: %d links, %d directories, %d files", links, dirs, files)
	}
}

// P16.1: over many file systems, and so many units in all.
func TestRowsInDrawnFileSystems(t *testing.T) {
	told, nowhere := 0, 0
	for seed := range 400 {
		r := rand.New(rand.NewSource(int64(1000 + seed)))
		w := drawn(t, r, 20+r.Intn(300))
		firsts := w.f.Devices()
		for range 20 {
			all := drawAll(r, w)
			got, want := Rows(w.f, all), w.rowsAnew(all)
			for i := range min(len(got), len(want)) {
				w.isWhere(firsts[i], got[i].At)
				if want[i].At = got[i].At; got[i].At == "?" {
					nowhere++
				} else {
					told++
				}
			}
			w.isRows(all, want...)
		}
		if t.Failed() {
			t.Fatalf("in the file system %d", seed)
		}
	}
	if told < 10000 || nowhere < 10000 {
		t.Errorf("too little was met: %d devices that are somewhere, %d nowhere", told, nowhere)
	}
}

// P16.2: what is used and what is left are together all, if not more is used;
// else nothing is left.
func TestUsedAndLeftAreAll(t *testing.T) {
	full, more := 0, 0
	for seed := range 400 {
		r := rand.New(rand.NewSource(int64(2000 + seed)))
		w := drawn(t, r, r.Intn(300))
		for range 50 {
			all := drawAll(r, w)
			for _, row := range Rows(w.f, all) {
				if row.All != max(all, 0) || row.Used < 0 || row.Left < 0 || row.Percent < 0 || row.Percent > 100 {
					t.Fatalf("in the file system %d, with %d in all: %+v", seed, all, row)
				}
				if row.Used > row.All {
					more++
					if row.Left != 0 || row.Percent != 100 {
						t.Fatalf("in the file system %d, with %d in all, of which more is used: %+v", seed, all, row)
					}
				} else if full++; row.Used+row.Left != row.All {
					t.Fatalf("in the file system %d, with %d in all: %+v", seed, all, row)
				}
			}
		}
	}
	if full < 10000 || more < 10000 {
		t.Errorf("too little was met: %d devices that hold all, %d that don't", full, more)
	}
}

// drawRow draws a row of whatever numbers.
func drawRow(r *rand.Rand) Row {
	number := func() int64 {
		return pick(r, 0, 1, -1, r.Int63n(100), -r.Int63n(100), int64(1)<<r.Intn(64), r.Int63(), -r.Int63(), math.MaxInt64, math.MinInt64)
	}
	return Row{
		int(number()), number(), number(), number(), number(),
		pick(r, "", "/", "?", "/a b", "/longer/than/its/head", " ", "\xff", "\u3042", "x\n", strings.Repeat("w", r.Intn(200))),
	}
}

// tableAnew is what Table should answer.
func tableAnew(l []Row) []string {
	dev, all, used, left, part := len("Device"), len("1K-blocks"), len("Used"), len("Available"), len("Use%")
	for _, r := range l {
		dev, all, used = max(dev, len(fmt.Sprint(r.Dev))), max(all, len(fmt.Sprint(r.All))), max(used, len(fmt.Sprint(r.Used)))
		left, part = max(left, len(fmt.Sprint(r.Left))), max(part, len(fmt.Sprint(r.Percent))+1)
	}
	lines := []string{fmt.Sprintf("%-*s %*s %*s %*s %*s Mounted", dev, "Device", all, "1K-blocks", used, "Used", left, "Available", part, "Use%")}
	for _, r := range l {
		lines = append(lines, fmt.Sprintf("%-*d %*d %*d %*d %*d%% ", dev, r.Dev, all, r.All, used, r.Used, left, r.Left, part-1, r.Percent)+r.At)
	}
	return lines
}

// P16.1: over many rows.
func TestDrawnTables(t *testing.T) {
	for seed := range 20000 {
		r := rand.New(rand.NewSource(int64(seed)))
		l := make([]Row, r.Intn(6), 12)
		for i := range l {
			l[i] = drawRow(r)
		}
		kept := slices.Clone(l)
		isTable(t, l, tableAnew(l)...)
		if !slices.Equal(l, kept) || slices.ContainsFunc(l[len(l):12], func(row Row) bool { return row != Row{} }) {
			t.Errorf("the rows were changed")
		}
		if t.Failed() {
			t.Fatalf("the table %d", seed)
		}
	}
}

// R5, P6.5: asking changes nothing, and is answered alike again, in new
// memory.
func TestFactsChangeNothing(t *testing.T) {
	for seed := range 40 {
		w := drawn(t, rand.New(rand.NewSource(int64(seed))), 150)
		twin := drawn(t, rand.New(rand.NewSource(int64(seed))), 150)
		r := rand.New(rand.NewSource(int64(seed)))
		for range 30 {
			all, id, name, format := drawAll(r, w), r.Intn(w.f.Count()), pick(r, names...), drawFormat(r)
			text, _ := Format(w.f, id, name, format)
			w.isFormat(id, name, format, text)
			rows := Rows(w.f, all)
			want, table := slices.Clone(rows), Table(rows)
			kept := slices.Clone(table)
			Rows(w.f, all)[0] = Row{}
			Table(rows)[0] = ""
			w.isRows(all, want...)
			isTable(t, rows, kept...)
			if !slices.Equal(rows, want) || !slices.Equal(table, kept) {
				t.Fatalf("in the file system %d: what was answered has changed", seed)
			}
		}
		if !w.f.Same(twin.f) {
			t.Errorf("the file system %d was changed", seed)
		}
	}
}
