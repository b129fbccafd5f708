package path

import (
	"fmt"
	"testing"

	"domesday/api"
	"domesday/vfs"
)

// errorNames are the names by which answers are told.
var errorNames = []string{
	"OK", "ErrArg", "ErrNoEnt", "ErrNotDir", "ErrExists", "ErrAccess", "ErrLoop", "ErrLong", "ErrIO", "ErrMany",
	"ErrOption", "ErrForm",
}

// anybody is one whom the tests' nodes know only as one of the others.
var anybody = api.Cred{Uid: 77, Gid: 88}

// site is where a test builds its file system.
type site struct {
	t *testing.T
	f *vfs.FS
}

func newSite(t *testing.T) site {
	return site{t, vfs.New()}
}

// do makes a change, which must be taken.
func (s site) do(c vfs.Change) int {
	s.t.Helper()
	id, err := s.f.Do(c)
	if err != api.OK {
		s.t.Fatalf("Do(%d, At %d, To %d, %.20q, %.20q): %s", c.Kind, c.At, c.To, c.Name, c.Text, errorNames[err])
	}
	return id
}

func (s site) dir(at int, name string) int {
	s.t.Helper()
	return s.do(vfs.Change{Kind: 0, At: at, Name: name, A: 0755})
}

func (s site) file(at int, name string) int {
	s.t.Helper()
	return s.do(vfs.Change{Kind: 1, At: at, Name: name, A: 0777})
}

func (s site) name(at int, name string, to int) {
	s.t.Helper()
	s.do(vfs.Change{Kind: 2, At: at, Name: name, To: to})
}

func (s site) link(at int, name, text string) int {
	s.t.Helper()
	return s.do(vfs.Change{Kind: 3, At: at, Name: name, Text: text})
}

func (s site) mode(to, mode int) {
	s.t.Helper()
	s.do(vfs.Change{Kind: 4, To: to, A: mode})
}

func (s site) owner(to, owner, group int) {
	s.t.Helper()
	s.do(vfs.Change{Kind: 5, To: to, A: owner, B: group})
}

func (s site) cover(to int) int {
	s.t.Helper()
	return s.do(vfs.Change{Kind: 7, To: to, A: 0755})
}

func (s site) unreadable(to int) {
	s.t.Helper()
	s.do(vfs.Change{Kind: 8, To: to})
}

// answer is what a walk answers.
type answer struct {
	place Place
	err   api.Errno
}

func (a answer) String() string {
	return fmt.Sprintf("%d, in %d %.20q, %d hops, %s", a.place.Id, a.place.Dir, a.place.Name, a.place.Hops, errorNames[a.err])
}

// entry is the answer of a walk that ends by a name's entry.
func entry(id, dir int, name string, hops int) answer {
	return answer{Place{id, dir, name, hops}, api.OK}
}

// bare is the answer of a walk that ends elsewhere.
func bare(id, hops int) answer {
	return answer{Place{id, id, "", hops}, api.OK}
}

// fault is the answer of a walk that is an error.
func fault(err api.Errno) answer {
	return answer{Place{}, err}
}

// short writes a path, cut.
func short(path string) string {
	if len(path) > 60 {
		return fmt.Sprintf("%.60q.. of %d bytes", path, len(path))
	}
	return fmt.Sprintf("%q", path)
}

// walks holds what a walk answers against what it should.
func (s site) walks(who api.Cred, path string, follow bool, want answer) {
	s.t.Helper()
	place, err := Walk(s.f, who, path, follow)
	if got := (answer{place, err}); got != want {
		s.t.Errorf("Walk by %v of %s, follow %v: %v, want %v", who, short(path), follow, got, want)
	}
}

// both walks with the last link followed and not, by one to whom nothing is
// closed and by one of the others.
func (s site) both(path string, want answer) {
	s.t.Helper()
	for _, who := range []api.Cred{anybody, {}} {
		s.walks(who, path, true, want)
		s.walks(who, path, false, want)
	}
}

// last walks as both does, where it matters if the last link is followed.
func (s site) last(path string, followed, not answer) {
	s.t.Helper()
	for _, who := range []api.Cred{anybody, {}} {
		s.walks(who, path, true, followed)
		s.walks(who, path, false, not)
	}
}
