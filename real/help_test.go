package real

import (
	"fmt"
	"strings"
	"testing"

	"domesday/api"
	"domesday/vfs"
)

// errorNames are the names by which answers are told.
var errorNames = []string{
	"OK", "ErrArg", "ErrNoEnt", "ErrNotDir", "ErrExists", "ErrAccess", "ErrLoop", "ErrLong", "ErrIO", "ErrMany",
	"ErrOption", "ErrForm",
}

var (
	// super is one to whom nothing is closed.
	super = api.Cred{}
	// anybody is one whom the tests' nodes know only as one of the others.
	anybody = api.Cred{Uid: 77, Gid: 88}
	// everybody is both.
	everybody = []api.Cred{super, anybody}
)

// site is where a test builds its file system.
type site struct {
	t *testing.T
	f *vfs.FS
}

func newSite(t *testing.T) site {
	return site{t, vfs.New()}
}

// do makes a change, which must be taken.
func (s site) do(c vfs.Change) int {
	s.t.Helper()
	id, err := s.f.Do(c)
	if err != api.OK {
		s.t.Fatalf("Do(%d, At %d, To %d, %.20q, %.20q): %s", c.Kind, c.At, c.To, c.Name, c.Text, errorNames[err])
	}
	return id
}

func (s site) dir(at int, name string) int {
	s.t.Helper()
	return s.do(vfs.Change{Kind: 0, At: at, Name: name, A: 0755})
}

func (s site) file(at int, name string) int {
	s.t.Helper()
	return s.do(vfs.Change{Kind: 1, At: at, Name: name, A: 0644})
}

func (s site) name(at int, name string, to int) {
	s.t.Helper()
	s.do(vfs.Change{Kind: 2, At: at, Name: name, To: to})
}

func (s site) link(at int, name, text string) int {
	s.t.Helper()
	return s.do(vfs.Change{Kind: 3, At: at, Name: name, Text: text})
}

func (s site) mode(to, mode int) {
	s.t.Helper()
	s.do(vfs.Change{Kind: 4, To: to, A: mode})
}

func (s site) cover(to int) int {
	s.t.Helper()
	return s.do(vfs.Change{Kind: 7, To: to, A: 0755})
}

func (s site) unreadable(to int) {
	s.t.Helper()
	s.do(vfs.Change{Kind: 8, To: to})
}

// answer is what a call answers: a text, or an error.
type answer struct {
	text string
	err  api.Errno
}

func (a answer) String() string {
	return short(a.text) + ", " + errorNames[a.err]
}

func text(text string) answer { return answer{text, api.OK} }

func fault(err api.Errno) answer { return answer{"", err} }

// short writes a text, cut.
func short(text string) string {
	if len(text) > 60 {
		return fmt.Sprintf("%.60q.. of %d bytes", text, len(text))
	}
	return fmt.Sprintf("%q", text)
}

// isDir holds what Dir answers against what it should.
func (s site) isDir(id int, want answer) {
	s.t.Helper()
	told, err := Dir(s.f, id)
	if got := (answer{told, err}); got != want {
		s.t.Errorf("Dir of %d: %v, want %v", id, got, want)
	}
}

// isOf holds what Of answers against what it should, and Near, which answers
// the same of what is there.
func (s site) isOf(who api.Cred, path, want string, id int) {
	s.t.Helper()
	if told, node, err := Of(s.f, who, path); told != want || node != id || err != api.OK {
		s.t.Errorf("Of by %v of %s: %s, %d, %s, want %s, %d", who, short(path), short(told), node, errorNames[err], short(want), id)
	}
	s.isNear(who, path, text(want))
	s.isReal(who, want, id)
}

// noOf holds what Of answers against an error.
func (s site) noOf(who api.Cred, path string, want api.Errno) {
	s.t.Helper()
	if told, id, err := Of(s.f, who, path); told != "" || id != 0 || err != want {
		s.t.Errorf("Of by %v of %s: %s, %d, %s, want %s", who, short(path), short(told), id, errorNames[err], errorNames[want])
	}
}

// neither holds what Of and Near answer against an error.
func (s site) neither(who api.Cred, path string, want api.Errno) {
	s.t.Helper()
	s.noOf(who, path, want)
	s.isNear(who, path, fault(want))
}

// onlyNear holds what Near answers of what isn't there against a path.
func (s site) onlyNear(who api.Cred, path, want string) {
	s.t.Helper()
	s.noOf(who, path, api.ErrNoEnt)
	s.isNear(who, path, text(want))
	s.isNear(who, want, text(want))
	s.isPlain(want)
}

// isNear holds what Near answers against what it should.
func (s site) isNear(who api.Cred, path string, want answer) {
	s.t.Helper()
	told, err := Near(s.f, who, path)
	if got := (answer{told, err}); got != want {
		s.t.Errorf("Near by %v of %s: %v, want %v", who, short(path), got, want)
	}
}

// isRead holds what Read answers against what it should.
func (s site) isRead(who api.Cred, path string, want answer) {
	s.t.Helper()
	told, err := Read(s.f, who, path)
	if got := (answer{told, err}); got != want {
		s.t.Errorf("Read by %v of %s: %v, want %v", who, short(path), got, want)
	}
}

// isPlain holds a real path against P9.2, as far as it is a text.
func (s site) isPlain(real string) {
	s.t.Helper()
	if real == "/" {
		return
	}
	for i, name := range strings.Split(real, "/") {
		if (name == "") != (i == 0) || name == "." || name == ".." {
			s.t.Errorf("the real path %s has a name %q", short(real), name)
		}
	}
}
