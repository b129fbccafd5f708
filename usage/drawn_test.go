package usage

import (
	"cmp"
	"math"
	"math/big"
	"math/rand"
	"slices"
	"strings"
	"testing"

	"domesday/api"
	"domesday/vfs"
)

// pick draws one of a list.
func pick[T any](r *rand.Rand, l ...T) T {
	return l[r.Intn(len(l))]
}

// tame are the kinds of changes that hide nothing.
var tame = []int{0, 0, 0, 1, 1, 1, 2, 2, 2, 3}

// wild are all kinds of changes.
var wild = []int{0, 0, 0, 0, 0, 1, 1, 1, 2, 2, 2, 3, 4, 5, 7, 8}

// drawn is a file system that is drawn by so many changes of some kinds. How
// many in ten are made in the directory made last is deep.
func drawn(t *testing.T, r *rand.Rand, changes, deep int, kinds []int) site {
	s := newSite(t)
	newest := 0
	for range changes {
		c := vfs.Change{
			Kind: pick(r, kinds...), At: r.Intn(s.f.Count()), To: r.Intn(s.f.Count()), A: 0755,
			Name: pick(r, "a", "b", "c", "B", ".h", "..a", "-", "\xff", "\u3042", "z z"),
			Text: pick(r, "..", "/", "a", "gone"),
			N:    pick[int64](r, 0, 1, 4096, 4097, 1<<20, math.MaxInt64, r.Int63(), r.Int63n(100000)),
		}
		if r.Intn(10) < deep {
			c.At = newest
		}
		switch c.Kind {
		case 4:
			c.A = pick(r, 0755, 0755, 0700, 0711, 0744, 0070, 0005, 0)
		case 5:
			c.A, c.B = r.Intn(3), r.Intn(3)
		}
		// Where too much is closed, or covered, the walks aren't deep.
		if c.Kind >= 4 && r.Intn(10) < deep {
			continue
		}
		if id, err := s.f.Do(c); err == api.OK && (c.Kind == 0 || c.Kind == 7) {
			newest = id
		}
	}
	return s
}

// anew is a sum that is worked out by a call of itself for all below, with
// numbers of any size, and nodes known by the numbers under which they were
// built.
type anew struct {
	site
	who   api.Cred
	how   How
	met   map[int]bool
	lines []Line
}

// opened tells what somebody may go through, from a directory's mode.
func (s site) opened(who api.Cred, id int) ([]api.Entry, api.Errno) {
	node, _ := s.f.Node(id)
	digit := node.Mode % 010
	switch {
	case who.Uid == 0:
		digit = 7
	case who.Uid == node.Uid:
		digit = node.Mode / 0100 % 010
	case who.Gid == node.Gid:
		digit = node.Mode / 010 % 010
	}
	if digit != 5 && digit != 7 {
		return nil, api.ErrAccess
	}
	l, err := s.f.List(id)
	slices.SortFunc(l, func(a, b api.Entry) int { return cmp.Compare(a.Name, b.Name) })
	return l, err
}

// cutTo63 is a number cut to the greatest int64.
func cutTo63(n *big.Int) int64 {
	if !n.IsInt64() {
		return math.MaxInt64
	}
	return n.Int64()
}

// of tells the blocks of a node with all below it, and takes its lines.
func (a *anew) of(id int, name string, depth int) *big.Int {
	id = a.f.Over(id)
	node, _ := a.f.Node(id)
	again := a.met[id] && !a.how.Each
	a.met[id] = true
	blocks := new(big.Int)
	if !again {
		blocks.SetInt64(node.Blocks)
	}
	deep := a.how.Most >= 0 && depth > a.how.Most
	mute := again || deep || node.Kind != api.Dir && !a.how.All && depth > 0
	if node.Kind == api.Dir && depth == api.MaxDepth {
		mute = true
	} else if node.Kind == api.Dir {
		l, err := a.opened(a.who, id)
		for _, e := range l {
			blocks.Add(blocks, a.of(e.Id, strings.TrimSuffix(name, "/")+"/"+e.Name, depth+1))
		}
		if err != api.OK && !again {
			a.lines = append(a.lines, failed(name, err))
		}
	}
	if !mute {
		a.lines = append(a.lines, line(unitsAnew(cutTo63(blocks), a.how.Unit), name))
	}
	return blocks
}

// sumAnew is what Sum should answer.
func (s site) sumAnew(who api.Cred, l []Start, how How) ([]Line, int64) {
	a := anew{site: s, who: who, how: how, met: map[int]bool{}}
	whole := new(big.Int)
	for _, start := range l {
		if start.Id >= 0 && start.Id < s.f.Count() {
			whole.Add(whole, a.of(start.Id, start.Name, 0))
		}
	}
	return a.lines, unitsAnew(cutTo63(whole), how.Unit)
}

// askers are those who ask in the file systems that are drawn.
var askers = []api.Cred{super, {Uid: 1, Gid: 1}, {Uid: 2, Gid: 1}, {Uid: 1, Gid: 2}, anybody, {Uid: 0, Gid: 5}}

// drawStarts draws where a sum begins.
func (s site) drawStarts(r *rand.Rand) []Start {
	var l []Start
	for range r.Intn(5) {
		id := r.Intn(s.f.Count()+2) - 1
		if r.Intn(4) == 0 {
			id = 0
		}
		l = append(l, Start{id, pick(r, "", "/", "a", "a/", ".", "x/y")})
	}
	return l
}

// drawHow draws how is asked.
func drawHow(r *rand.Rand) How {
	return How{
		All:  r.Intn(2) == 0,
		Most: pick(r, -1, -1, -1, 0, 1, 2, 3, 5, 40, 99, 100, 101, math.MaxInt, math.MinInt),
		Each: r.Intn(3) == 0,
		Unit: pick[int64](r, 1, 512, 1000, 1024, 0, -1, 4096, 1<<40, math.MaxInt64, math.MinInt64),
	}
}

// P14.2
func TestSumInDrawnFileSystems(t *testing.T) {
	seen, agains := map[api.Errno]int{}, 0
	for seed := range 400 {
		r := rand.New(rand.NewSource(int64(seed)))
		deep := pick(r, 0, 0, 3, 8, 10)
		s := drawn(t, r, 20+r.Intn(100+60*deep), deep, wild)
		for range 30 {
			who, starts, how := pick(r, askers...), s.drawStarts(r), drawHow(r)
			want, whole := s.sumAnew(who, starts, how)
			s.isSum(who, starts, how, whole, want...)
			for _, l := range want {
				seen[l.Err]++
			}
			if each := how; !how.Each {
				each.Each = true
				if more, _ := s.sumAnew(who, starts, each); len(more) > len(want) {
					agains++
				}
			}
		}
		if t.Failed() {
			t.Fatalf("in the file system %d", seed)
		}
	}
	if seen[api.OK] < 10000 || seen[api.ErrAccess] < 300 || seen[api.ErrIO] < 300 || agains < 300 {
		t.Errorf("too little was met: %v, %d sums with nodes that are met again", seen, agains)
	}
}

// reach notes all that is met from a node, and tells if all of it can be
// gone through.
func (s site) reach(who api.Cred, id, depth int, met map[int]bool) bool {
	id = s.f.Over(id)
	met[id] = true
	if s.f.Up(id) < 0 || depth == api.MaxDepth {
		return true
	}
	l, err := s.opened(who, id)
	readable := err == api.OK
	for _, e := range l {
		if !s.reach(who, e.Id, depth+1, met) {
			readable = false
		}
	}
	return readable
}

// P14.3, P3: without Each the whole is what all nodes that are met have, each
// once, whatever lines there are.
func TestWholeIsOfAllNodesOnce(t *testing.T) {
	readable := 0
	for seed := range 300 {
		r := rand.New(rand.NewSource(int64(1000 + seed)))
		s := drawn(t, r, 20+r.Intn(300), pick(r, 0, 3, 8), pick(r, tame, wild))
		for range 20 {
			who, starts, how := pick(r, askers...), s.drawStarts(r), drawHow(r)
			how.Each = false
			met, blocks := map[int]bool{}, new(big.Int)
			for _, start := range starts {
				if start.Id >= 0 && start.Id < s.f.Count() && s.reach(who, start.Id, 0, met) {
					readable++
				}
			}
			for id := range met {
				node, _ := s.f.Node(id)
				blocks.Add(blocks, big.NewInt(node.Blocks))
			}
			want := unitsAnew(cutTo63(blocks), how.Unit)
			if _, whole := Sum(s.f, who, starts, how); whole != want {
				t.Fatalf("in the file system %d, by %v, from %v, %+v: in all %d, want %d", seed, who, starts, how, whole, want)
			}
		}
	}
	if readable < 5000 {
		t.Errorf("only %d starts could be read", readable)
	}
}

// P14.3, P3: from the root, where nothing is closed, covered or too deep, that
// is all that there is; with Each it is what all entries have.
func TestWholeOfTheRoot(t *testing.T) {
	for seed := range 300 {
		r := rand.New(rand.NewSource(int64(2000 + seed)))
		s := drawn(t, r, r.Intn(100), 0, tame)
		nodes, entries := new(big.Int), big.NewInt(8)
		for id := range s.f.Count() {
			node, _ := s.f.Node(id)
			nodes.Add(nodes, big.NewInt(node.Blocks))
			l, _ := s.f.List(id)
			for _, e := range l {
				in, _ := s.f.Node(e.Id)
				entries.Add(entries, big.NewInt(in.Blocks))
			}
		}
		for _, unit := range []int64{1, 512, 1 << 30} {
			how := How{Unit: unit}
			sum := unitsAnew(cutTo63(nodes), unit)
			s.isSum(anybody, from(Start{0, "/"}), how, sum, line(sum, "/"))
			s.isSum(anybody, from(Start{0, "/"}, Start{0, "."}, Start{1, "x"}), how, sum, line(sum, "/"))
			how.Each = true
			sum = unitsAnew(cutTo63(entries), unit)
			s.isSum(anybody, from(Start{0, "/"}), how, sum, line(sum, "/"))
		}
	}
}

// R5, P6.5: asking changes nothing, and is answered alike again.
func TestSumChangesNothing(t *testing.T) {
	for seed := range 40 {
		s := drawn(t, rand.New(rand.NewSource(int64(seed))), 150, 3, wild)
		twin := drawn(t, rand.New(rand.NewSource(int64(seed))), 150, 3, wild)
		r := rand.New(rand.NewSource(int64(seed)))
		for range 20 {
			who, starts, how := pick(r, askers...), s.drawStarts(r), drawHow(r)
			want, whole := Sum(s.f, who, starts, how)
			s.isSum(who, starts, how, whole, want...)
		}
		if !s.f.Same(twin.f) {
			t.Errorf("the file system %d was changed", seed)
		}
	}
}
