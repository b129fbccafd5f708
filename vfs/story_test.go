package vfs

import (
	"reflect"
	"strings"
	"testing"

	"domesday/api"
)

// story is a file system told anew by the chapter's words: the changes that
// were taken, from which each answer is worked out on its own.
type story []Change

// question is one that Do asks of some kinds, and the error, if it is so.
type question struct {
	kinds string
	err   api.Errno
	wrong func(s story, c Change) bool
}

// questions are those of P6.2, in the chapter's order.
var questions = []question{
	{"0123", api.ErrNoEnt, func(s story, c Change) bool { return c.At < 0 || c.At >= s.count() }},
	{"0123", api.ErrNotDir, func(s story, c Change) bool { return s.kind(c.At) != api.Dir }},
	{"0123", api.ErrArg, func(s story, c Change) bool {
		return c.Name == "" || len(c.Name) > 255 || c.Name == "." || c.Name == ".." || strings.Contains(c.Name, "/") || strings.Contains(c.Name, "\x00")
	}},
	{"0123", api.ErrExists, func(s story, c Change) bool {
		for _, e := range s.entries(c.At) {
			if e.Name == c.Name {
				return true
			}
		}
		return false
	}},
	{"2", api.ErrNoEnt, func(s story, c Change) bool { return c.To < 0 || c.To >= s.count() }},
	{"2", api.ErrArg, func(s story, c Change) bool { return s.kind(c.To) == api.Dir }},
	{"2", api.ErrArg, func(s story, c Change) bool { return s.device(c.To) != s.device(c.At) }},
	{"1", api.ErrArg, func(s story, c Change) bool { return c.N < 0 }},
	{"3", api.ErrArg, func(s story, c Change) bool {
		return c.Text == "" || len(c.Text) > 4096 || strings.Contains(c.Text, "\x00")
	}},
	{"45678", api.ErrNoEnt, func(s story, c Change) bool { return c.To < 0 || c.To >= s.count() }},
	{"6", api.ErrArg, func(s story, c Change) bool { return c.A < 0 || c.A > 2 }},
	{"7", api.ErrNotDir, func(s story, c Change) bool { return s.kind(c.To) != api.Dir }},
	{"7", api.ErrArg, func(s story, c Change) bool { return s.over(c.To) != c.To }},
	{"7", api.ErrArg, func(s story, c Change) bool { return c.To == 0 || s.maker(c.To).Kind == 7 }},
	{"0137", api.ErrMany, func(s story, c Change) bool { return s.count() >= 300 }},
}

// answer is what Do shall answer.
func (s story) answer(c Change) (int, api.Errno) {
	if c.Kind < 0 || c.Kind > 8 {
		return 0, api.ErrArg
	}
	for _, q := range questions {
		if strings.Contains(q.kinds, string(rune('0'+c.Kind))) && q.wrong(s, c) {
			return 0, q.err
		}
	}
	if makes(c) {
		return s.count(), api.OK
	}
	return 0, api.OK
}

func (s story) count() int {
	count := 1
	for _, c := range s {
		if makes(c) {
			count++
		}
	}
	return count
}

// maker is the change that made a node; the root's is as a directory's.
func (s story) maker(id int) Change {
	at := 0
	for _, c := range s {
		if makes(c) {
			at++
			if at == id {
				return c
			}
		}
	}
	return Change{Kind: 0, A: 0o755}
}

func (s story) kind(id int) int {
	switch s.maker(id).Kind {
	case 1:
		return api.File
	case 3:
		return api.Link
	}
	return api.Dir
}

func (s story) device(id int) int {
	if id == 0 {
		return 1
	}
	if made := s.maker(id); made.Kind != 7 {
		return s.device(made.At)
	}
	device := 1
	for at := 1; at <= id; at++ {
		if s.maker(at).Kind == 7 {
			device++
		}
	}
	return device
}

func (s story) entries(dir int) []api.Entry {
	l, at := []api.Entry{}, 0
	for _, c := range s {
		if makes(c) {
			at++
		}
		switch {
		case c.Kind == 7 || c.Kind > 3 || c.At != dir:
		case c.Kind == 2:
			l = append(l, api.Entry{Name: c.Name, Id: c.To})
		default:
			l = append(l, api.Entry{Name: c.Name, Id: at})
		}
	}
	return l
}

func (s story) over(id int) int {
	for at := 1; at < s.count(); at++ {
		if c := s.maker(at); c.Kind == 7 && c.To == id {
			return at
		}
	}
	return id
}

func (s story) up(id int) int {
	made := s.maker(id)
	switch {
	case id == 0:
		return 0
	case made.Kind == 7:
		return s.up(made.To)
	case made.Kind == 0:
		return made.At
	}
	return -1
}

func (s story) unreadable(id int) bool {
	for _, c := range s {
		if c.Kind == 8 && c.To == id {
			return true
		}
	}
	return false
}

func (s story) links(id int) int {
	links := 0
	if s.kind(id) == api.Dir {
		links = 2
		for _, e := range s.entries(id) {
			if s.kind(e.Id) == api.Dir {
				links++
			}
		}
		return links
	}
	for dir := range s.count() {
		for _, e := range s.entries(dir) {
			if e.Id == id {
				links++
			}
		}
	}
	return links
}

func (s story) node(id int) api.Node {
	made := s.maker(id)
	n := api.Node{Dev: s.device(id), Ino: 1, Kind: s.kind(id), Links: s.links(id), Mode: made.A & 0o7777}
	for at := range id {
		if s.device(at) == n.Dev {
			n.Ino++
		}
	}
	switch n.Kind {
	case api.Dir:
		n.Size, n.Blocks = 4096, 8
	case api.File:
		n.Size = made.N
		for done := int64(0); done < made.N; done += 4096 {
			n.Blocks += 8
		}
	case api.Link:
		n.Size, n.Mode, n.Target = int64(len(made.Text)), 0o777, made.Text
	}
	for _, c := range s {
		switch {
		case c.To != id:
		case c.Kind == 4:
			n.Mode = c.A & 0o7777
		case c.Kind == 5:
			n.Uid, n.Gid = max(c.A, 0), max(c.B, 0)
		case c.Kind == 6:
			n.Times[c.A] = c.N
		}
	}
	return n
}

func (s story) told(id int) told {
	n := told{node: s.node(id), list: []api.Entry{}, listErr: api.ErrNotDir, linkErr: api.ErrArg, up: s.up(id), over: s.over(id)}
	hidden := s.unreadable(id)
	switch {
	case n.node.Kind == api.Dir && hidden:
		n.listErr = api.ErrIO
	case n.node.Kind == api.Dir:
		n.list, n.listErr = s.entries(id), api.OK
	case n.node.Kind == api.Link && hidden:
		n.linkErr = api.ErrIO
	case n.node.Kind == api.Link:
		n.link, n.linkErr = n.node.Target, api.OK
	}
	return n
}

func (s story) picture() picture {
	p := picture{count: s.count(), devices: []int{}}
	for id := range s.count() {
		p.nodes = append(p.nodes, s.told(id))
		if id == 0 || s.maker(id).Kind == 7 {
			p.devices = append(p.devices, id)
		}
	}
	return p
}

// draw is a row of numbers that looks drawn, and is the same in each run.
type draw uint64

func (d *draw) below(n int) int {
	*d = *d*6364136223846793005 + 1442695040888963407
	return int(uint64(*d) >> 33 % uint64(n))
}

// change draws one, mostly of what there is.
func (d *draw) change(count int) Change {
	names := []string{"a", "b", "c", "d", "e", "f", "g", ".h", "", ".", "..", "...", "x/y", "x\x00", strings.Repeat("n", 255), strings.Repeat("n", 256)}
	texts := []string{"a", "/", "..", "\xff", "", "t\x00", strings.Repeat("t", 4096), strings.Repeat("t", 4097)}
	numbers := []int64{0, 1, 2, 4095, 4096, 4097, 100000, -1}
	c := Change{
		Kind: d.below(9), At: d.below(count), To: d.below(count), Name: names[d.below(len(names))], Text: texts[d.below(len(texts))],
		A: d.below(5) - 1, B: d.below(5) - 1, N: numbers[d.below(len(numbers))],
	}
	switch d.below(20) {
	case 0:
		c.Kind = d.below(13) - 2
	case 1:
		c.At = d.below(count+4) - 2
	case 2:
		c.To = d.below(count+4) - 2
	case 3:
		c.A, c.B = d.below(1<<14)-1<<13, d.below(1<<14)-1<<13
	}
	return c
}

// Each story is told in full behind each of its changes (P6.1 to P6.4), and a
// second file system that takes the same ones is the same.
func TestStories(t *testing.T) {
	met := map[api.Errno]int{}
	for seed := range draw(60) {
		d, s := seed, story{}
		f, g := New(), New()
		for step := range 60 {
			c := d.change(f.Count())
			want, wantErr := s.answer(c)
			got, err := f.Do(c)
			if got != want || err != wantErr {
				t.Fatalf("story %d, step %d, Do(%s): %d, %s, want %d, %s", seed, step, short(c), got, errorNames[err], want, errorNames[wantErr])
			}
			met[err]++
			if err == api.OK {
				s = append(s, c)
			}
			if got, want := look(f), s.picture(); !reflect.DeepEqual(got, want) {
				t.Fatalf("story %d, step %d, behind %s:\n%+v, want\n%+v", seed, step, short(c), got, want)
			}
			g.Do(c)
			if !f.Same(g) || !g.Same(f) {
				t.Fatalf("story %d, step %d, behind %s: not the same", seed, step, short(c))
			}
		}
	}
	for _, err := range []api.Errno{api.OK, api.ErrArg, api.ErrNoEnt, api.ErrNotDir, api.ErrExists} {
		if met[err] < 20 {
			t.Errorf("%s was met %d times", errorNames[err], met[err])
		}
	}
}
