package vfs

import (
	"fmt"
	"math"
	"reflect"
	"slices"
	"testing"

	"domesday/api"
)

const (
	least    = math.MinInt64
	greatest = math.MaxInt64
)

// errorNames are the names by which answers are told.
var errorNames = []string{
	"OK", "ErrArg", "ErrNoEnt", "ErrNotDir", "ErrExists", "ErrAccess", "ErrLoop", "ErrLong", "ErrIO", "ErrMany",
	"ErrOption", "ErrForm",
}

// told is all that may be asked of a node.
type told struct {
	node     api.Node
	nodeErr  api.Errno
	list     []api.Entry
	listErr  api.Errno
	link     string
	linkErr  api.Errno
	up, over int
}

// picture is all that may be asked of a file system.
type picture struct {
	count   int
	devices []int
	nodes   []told
}

// look asks all of a file system.
func look(f *FS) picture {
	p := picture{count: f.Count(), devices: filled(f.Devices())}
	for id := range f.Count() {
		p.nodes = append(p.nodes, lookAt(f, id))
	}
	return p
}

// lookAt asks all of a node.
func lookAt(f *FS, id int) told {
	n := told{up: f.Up(id), over: f.Over(id)}
	n.node, n.nodeErr = f.Node(id)
	n.list, n.listErr = f.List(id)
	n.list = filled(n.list)
	n.link, n.linkErr = f.Link(id)
	return n
}

// filled is a copy of a list that isn't nil, as no elements may be told either
// way.
func filled[T any](l []T) []T {
	return append([]T{}, l...)
}

// with is a file system that has a root, and what the changes make.
func with(t *testing.T, changes ...Change) *FS {
	t.Helper()
	f := New()
	for _, c := range changes {
		do(t, f, c)
	}
	return f
}

// makes tells if a change makes a node.
func makes(c Change) bool {
	return c.Kind == 0 || c.Kind == 1 || c.Kind == 3 || c.Kind == 7
}

// do makes a change, which must be taken.
func do(t *testing.T, f *FS, c Change) int {
	t.Helper()
	want, count := 0, f.Count()
	if makes(c) {
		want = count
		count++
	}
	got, err := f.Do(c)
	if got != want || err != api.OK || f.Count() != count {
		t.Fatalf("Do(%s): %d, %s, %d nodes, want %d, %d nodes", short(c), got, errorNames[err], f.Count(), want, count)
	}
	return got
}

// refuse makes a change that must not be taken, nor leave a trace.
func refuse(t *testing.T, f *FS, c Change, want api.Errno) {
	t.Helper()
	ahead := look(f)
	got, err := f.Do(c)
	if got != 0 || err != want {
		t.Errorf("Do(%s): %d, %s, want 0, %s", short(c), got, errorNames[err], errorNames[want])
	}
	if !reflect.DeepEqual(look(f), ahead) {
		t.Errorf("Do(%s): it changed something", short(c))
	}
}

// short writes a change, its texts cut.
func short(c Change) string {
	return fmt.Sprintf("%d: At %d, To %d, %.20q, %.20q, A %d, B %d, N %d", c.Kind, c.At, c.To, c.Name, c.Text, c.A, c.B, c.N)
}

func isNode(t *testing.T, f *FS, id int, want api.Node) {
	t.Helper()
	if got, err := f.Node(id); got != want || err != api.OK {
		t.Errorf("Node(%d): %+v, %s, want %+v", id, got, errorNames[err], want)
	}
}

func isList(t *testing.T, f *FS, id int, want ...api.Entry) {
	t.Helper()
	if got, err := f.List(id); !slices.Equal(got, want) || err != api.OK {
		t.Errorf("List(%d): %v, %s, want %v", id, got, errorNames[err], want)
	}
}

func isLinks(t *testing.T, f *FS, id, want int) {
	t.Helper()
	if n, err := f.Node(id); n.Links != want || err != api.OK {
		t.Errorf("links of %d: %d, %s, want %d", id, n.Links, errorNames[err], want)
	}
}

// The changes, by what they make or give.

func dirIn(at int, name string) Change  { return Change{Kind: 0, At: at, Name: name, A: 0o755} }
func fileIn(at int, name string) Change { return Change{Kind: 1, At: at, Name: name, A: 0o644} }
func linkIn(at int, name, text string) Change {
	return Change{Kind: 3, At: at, Name: name, Text: text}
}
func nameIn(at int, name string, to int) Change { return Change{Kind: 2, At: at, Name: name, To: to} }
func modeOf(to, mode int) Change                { return Change{Kind: 4, To: to, A: mode} }
func ownerOf(to, owner, group int) Change       { return Change{Kind: 5, To: to, A: owner, B: group} }
func timeOf(to, which int, time int64) Change   { return Change{Kind: 6, To: to, A: which, N: time} }
func mountOn(to, mode int) Change               { return Change{Kind: 7, To: to, A: mode} }
func unreadable(to int) Change                  { return Change{Kind: 8, To: to} }
