package perm

import (
	"fmt"
	"math"
	"strings"
	"testing"

	"domesday/api"
)

// The node's owner and group in these tests, unless a test says otherwise.
const (
	owner = 10
	group = 20
)

func node(kind, mode int) api.Node {
	return api.Node{Kind: kind, Mode: mode, Uid: owner, Gid: group}
}

var kinds = []int{api.File, api.Dir, api.Link, 0, 4, -1, math.MinInt, math.MaxInt}

// digit is the octal digit of a mode of twelve bits, the uppermost first.
func digit(mode, at int) int {
	return strings.Index("01234567", fmt.Sprintf("%04o", mode)[at:at+1])
}

// P7.1
func TestMayByTable(t *testing.T) {
	ownerAlone := api.Cred{Uid: owner, Gid: 21}
	ownerInGroup := api.Cred{Uid: owner, Gid: group}
	member := api.Cred{Uid: 11, Gid: group}
	stranger := api.Cred{Uid: 11, Gid: 21}
	for _, c := range []struct {
		name  string
		mode  int
		who   api.Cred
		wants string // the wants from 0 to 7 that are answered by true
	}{
		{"owner of all", 0700, ownerAlone, "01234567"},
		{"owner reads and writes", 0640, ownerAlone, "0246"},
		{"owner reads", 0400, ownerAlone, "04"},
		{"owner writes", 0200, ownerAlone, "02"},
		{"owner searches", 0100, ownerAlone, "01"},
		{"group reads and searches", 0750, member, "0145"},
		{"others of nothing", 0750, stranger, "0"},
		{"others read and search", 0755, stranger, "0145"},
		{"owner less than group", 0077, ownerAlone, "0"},
		{"owner in the group, less than it", 0470, ownerInGroup, "04"},
		{"owner in the group, more than it", 0740, ownerInGroup, "01234567"},
		{"group less than others", 0707, member, "0"},
		{"group between", 0527, member, "02"},
		{"others more than all", 0017, stranger, "01234567"},
		{"special bits are nobody's", 07000, stranger, "0"},
		{"special bits are not the owner's", 07000, ownerInGroup, "0"},
	} {
		for _, kind := range kinds {
			for want := 0; want <= 7; want++ {
				expected := strings.Contains(c.wants, fmt.Sprint(want))
				if got := May(node(kind, c.mode), c.who, want); got != expected {
					t.Errorf("%s: kind %d, want %d: %v", c.name, kind, want, got)
				}
			}
		}
	}
}

// P7.1
func TestMayOfTheUidZero(t *testing.T) {
	for _, c := range []struct {
		kind, mode int
		wants      string
	}{
		{api.File, 0, "0246"},
		{api.File, 0666, "0246"},
		{api.File, 07666, "0246"},
		{api.File, 0100, "01234567"},
		{api.File, 0010, "01234567"},
		{api.File, 0001, "01234567"},
		{api.File, 0777, "01234567"},
		{api.Dir, 0, "01234567"},
		{api.Dir, 0666, "01234567"},
		{api.Dir, 0001, "01234567"},
		{api.Link, 0, "0246"},
		{api.Link, 07666, "0246"},
		{api.Link, 0100, "01234567"},
		{api.Link, 0010, "01234567"},
		{api.Link, 0001, "01234567"},
		{0, 0, "0246"},
		{4, 0666, "0246"},
		{4, 0010, "01234567"},
		{-2, 0, "0246"},
	} {
		for _, of := range []struct{ uid, gid, asks int }{
			{0, 0, 0}, {0, 5, 7}, {5, 0, 0}, {5, 7, 7}, {5, 7, 9},
		} {
			n := api.Node{Kind: c.kind, Mode: c.mode, Uid: of.uid, Gid: of.gid}
			for want := 0; want <= 7; want++ {
				expected := strings.Contains(c.wants, fmt.Sprint(want))
				if got := May(n, api.Cred{Uid: 0, Gid: of.asks}, want); got != expected {
					t.Errorf("kind %d, mode %04o, of %v: want %d: %v", c.kind, c.mode, of, want, got)
				}
			}
		}
	}
}

// P7.1: the group 0 is a group like any other, and no uid but 0 is the uid 0.
func TestMayOfTheGroupZero(t *testing.T) {
	n := api.Node{Kind: api.Dir, Mode: 0070, Uid: owner, Gid: 0}
	if !May(n, api.Cred{Uid: 11, Gid: 0}, 7) {
		t.Error("the group 0 lacks its own bits")
	}
	n.Gid = group
	for _, uid := range []int{1, -1, 11, math.MinInt, math.MaxInt} {
		if May(n, api.Cred{Uid: uid, Gid: 0}, 4) {
			t.Errorf("uid %d may read by the group 0", uid)
		}
	}
}

// P7.1: owners and groups are told from each other whatever numbers they are.
func TestMayOfStrangeNumbers(t *testing.T) {
	numbers := []int{-1, 1, 1 << 32, math.MinInt, math.MaxInt}
	for _, uid := range numbers {
		for _, gid := range numbers {
			n := api.Node{Kind: api.File, Mode: 0421, Uid: uid, Gid: gid}
			for _, asks := range numbers {
				for _, in := range numbers {
					expected := 1
					if asks == uid {
						expected = 4
					} else if in == gid {
						expected = 2
					}
					for want := 0; want <= 7; want++ {
						if May(n, api.Cred{Uid: asks, Gid: in}, want) != (want == 0 || want == expected) {
							t.Fatalf("node of %d, %d, asked by %d, %d: want %d", uid, gid, asks, in, want)
						}
					}
				}
			}
		}
	}
}

// bitsByDigits tells what somebody may, by the octal digits of a mode.
func bitsByDigits(n api.Node, who api.Cred) map[int]bool {
	digits := map[string]int{"owner": digit(n.Mode, 1), "group": digit(n.Mode, 2), "others": digit(n.Mode, 3)}
	if who.Uid == 0 {
		somebodySearches := n.Kind == api.Dir
		for _, d := range digits {
			somebodySearches = somebodySearches || d%2 == 1
		}
		return map[int]bool{4: true, 2: true, 1: somebodySearches}
	}
	whose := "others"
	if who.Gid == n.Gid {
		whose = "group"
	}
	if who.Uid == n.Uid {
		whose = "owner"
	}
	d := digits[whose]
	return map[int]bool{4: d >= 4, 2: d%4 >= 2, 1: d%2 == 1}
}

// P7.1: each mode, each want, each who, against the octal digits.
func TestMayOfEachMode(t *testing.T) {
	asks := []api.Cred{
		{Uid: owner, Gid: 21}, {Uid: owner, Gid: group}, {Uid: 11, Gid: group}, {Uid: 11, Gid: 21},
		{Uid: 0, Gid: group}, {Uid: 0, Gid: 21},
	}
	for mode := 0; mode < 4096; mode++ {
		for _, kind := range []int{api.File, api.Dir, api.Link, 0} {
			n := node(kind, mode)
			for _, who := range asks {
				bits := bitsByDigits(n, who)
				for want := 0; want <= 7; want++ {
					expected := (want < 4 || bits[4]) && (want%4 < 2 || bits[2]) && (want%2 == 0 || bits[1])
					if got := May(n, who, want); got != expected {
						t.Fatalf("kind %d, mode %04o, who %v, want %d: %v", kind, mode, who, want, got)
					}
				}
			}
		}
	}
}

// P7.1: of a want below 0 or above 7 the three lowest bits are asked.
func TestMayOfStrangeWants(t *testing.T) {
	for _, c := range []struct{ want, lowest int }{
		{-1, 7}, {-2, 6}, {-3, 5}, {-4, 4}, {-5, 3}, {-6, 2}, {-7, 1}, {-8, 0}, {-9, 7}, {-16, 0},
		{8, 0}, {9, 1}, {10, 2}, {11, 3}, {12, 4}, {13, 5}, {14, 6}, {15, 7}, {16, 0}, {64, 0}, {0777, 7},
		{math.MaxInt, 7}, {math.MaxInt - 7, 0}, {math.MinInt, 0}, {math.MinInt + 5, 5},
	} {
		for mode := 0; mode < 8; mode++ {
			who := api.Cred{Uid: 11, Gid: 21}
			expected := c.lowest|mode == mode
			if got := May(node(api.File, mode), who, c.want); got != expected {
				t.Errorf("mode %o, want %d: %v", mode, c.want, got)
			}
		}
	}
}

// P7.1, P7.2: of a mode that is no mode the twelve lowest bits are told.
func TestStrangeModes(t *testing.T) {
	for _, c := range []struct{ mode, lowest int }{
		{-1, 07777}, {-4096, 0}, {4096, 0}, {0100644, 0644}, {math.MinInt, 0}, {math.MaxInt, 07777},
		{math.MinInt + 01755, 01755}, {-4096 + 02741, 02741},
	} {
		for _, kind := range kinds {
			n, m := node(kind, c.mode), node(kind, c.lowest)
			if Text(n) != Text(m) || Mark(n) != Mark(m) {
				t.Errorf("kind %d, mode %d: %s and %q", kind, c.mode, Text(n), Mark(n))
			}
			for want := 0; want <= 7; want++ {
				for _, who := range []api.Cred{{Uid: owner}, {Uid: 11, Gid: group}, {Uid: 11}, {}} {
					if May(n, who, want) != May(m, who, want) {
						t.Errorf("kind %d, mode %d, who %v, want %d", kind, c.mode, who, want)
					}
				}
			}
		}
	}
}

// P7.2
func TestKind(t *testing.T) {
	for kind, expected := range map[int]string{
		api.File: "-", api.Dir: "d", api.Link: "l",
		0: "?", 4: "?", -1: "?", -2: "?", 257: "?", math.MinInt: "?", math.MaxInt: "?",
	} {
		for _, mode := range []int{0, 0755, 07777} {
			if got := Kind(node(kind, mode)); got != expected {
				t.Errorf("kind %d: %q", kind, got)
			}
		}
	}
}

// P7.2
func TestTextByTable(t *testing.T) {
	for _, c := range []struct {
		kind, mode int
		expected   string
	}{
		{api.Dir, 01777, "drwxrwxrwt"},
		{api.File, 0, "----------"},
		{api.File, 0644, "-rw-r--r--"},
		{api.File, 0755, "-rwxr-xr-x"},
		{api.File, 0421, "-r---w---x"},
		{api.File, 0124, "---x-w-r--"},
		{api.Link, 0777, "lrwxrwxrwx"},
		{api.Dir, 0700, "drwx------"},
		{api.Dir, 0070, "d---rwx---"},
		{api.Dir, 0007, "d------rwx"},
		{0, 0640, "?rw-r-----"},
		{4, 0, "?---------"},
		{api.File, 04000, "---S------"},
		{api.File, 04100, "---s------"},
		{api.File, 02000, "------S---"},
		{api.File, 02010, "------s---"},
		{api.File, 01000, "---------T"},
		{api.File, 01001, "---------t"},
		{api.File, 04011, "---S--x--x"},
		{api.File, 02101, "---x--S--x"},
		{api.File, 01110, "---x--x--T"},
		{api.File, 06000, "---S--S---"},
		{api.File, 05000, "---S-----T"},
		{api.File, 03000, "------S--T"},
		{api.File, 07000, "---S--S--T"},
		{api.File, 06110, "---s--s---"},
		{api.File, 07111, "---s--s--t"},
		{api.File, 07777, "-rwsrwsrwt"},
		{api.File, 07666, "-rwSrwSrwT"},
		{api.File, 04755, "-rwsr-xr-x"},
		{api.Dir, 02775, "drwxrwsr-x"},
	} {
		if got := Text(node(c.kind, c.mode)); got != c.expected {
			t.Errorf("kind %d, mode %04o: %q, not %q", c.kind, c.mode, got, c.expected)
		}
	}
}

// P7.2: each mode's letters, against the octal digits.
func TestTextOfEachMode(t *testing.T) {
	threes := []string{"---", "--x", "-w-", "-wx", "r--", "r-x", "rw-", "rwx"}
	for mode := 0; mode < 4096; mode++ {
		expected := "?"
		for i, low := range []string{"s", "s", "t"} {
			three := threes[digit(mode, i+1)]
			special := []int{4, 2, 1}[i]&digit(mode, 0) != 0
			if special && three[2] == 'x' {
				three = three[:2] + low
			} else if special {
				three = three[:2] + strings.ToUpper(low)
			}
			expected += three
		}
		for _, kind := range kinds {
			if got, own := Text(node(kind, mode)), Kind(node(kind, mode))+expected[1:]; got != own {
				t.Fatalf("kind %d, mode %04o: %q, not %q", kind, mode, got, own)
			}
		}
	}
}

// P7.2: Text hangs on a node's kind and mode alone.
func TestTextOfOtherFields(t *testing.T) {
	n := node(api.Link, 0777)
	n.Dev, n.Ino, n.Size, n.Links, n.Target = 3, 4, 5, 6, "/a"
	if Text(n) != "lrwxrwxrwx" || Kind(n) != "l" || Mark(n) != "@" {
		t.Error(Text(n), Kind(n), Mark(n))
	}
}

// P7.2
func TestMarkByTable(t *testing.T) {
	for _, c := range []struct {
		kind, mode int
		expected   string
	}{
		{api.File, 0100, "*"}, {api.File, 0010, "*"}, {api.File, 0001, "*"}, {api.File, 0755, "*"},
		{api.File, 0, ""}, {api.File, 0666, ""}, {api.File, 07666, ""},
		{api.File, 04000, ""}, {api.File, 02000, ""}, {api.File, 01000, ""}, {api.File, 010000, ""},
		{api.Dir, 0, "/"}, {api.Dir, 0755, "/"}, {api.Link, 0, "@"}, {api.Link, 0777, "@"},
		{0, 0777, ""}, {4, 0111, ""}, {-1, 0111, ""}, {math.MaxInt, 0777, ""},
	} {
		if got := Mark(node(c.kind, c.mode)); got != c.expected {
			t.Errorf("kind %d, mode %04o: %q", c.kind, c.mode, got)
		}
	}
}

// P7.2: of each mode a file's mark is told by its three digits.
func TestMarkOfEachMode(t *testing.T) {
	for mode := 0; mode < 4096; mode++ {
		expected := ""
		if digit(mode, 1)%2+digit(mode, 2)%2+digit(mode, 3)%2 > 0 {
			expected = "*"
		}
		if got := Mark(node(api.File, mode)); got != expected {
			t.Fatalf("mode %04o: %q", mode, got)
		}
	}
}

// P7.3: who may each of two wants may both at once, and the other way round.
func TestBothIsEach(t *testing.T) {
	asks := []api.Cred{{Uid: owner, Gid: 21}, {Uid: 11, Gid: group}, {Uid: 11, Gid: 21}, {Uid: 0, Gid: 21}}
	for mode := 0; mode < 4096; mode++ {
		for _, kind := range []int{api.File, api.Dir, api.Link, 0} {
			n := node(kind, mode)
			for _, who := range asks {
				if May(n, who, 6) != (May(n, who, 4) && May(n, who, 2)) {
					t.Fatalf("kind %d, mode %04o, who %v: reading and writing", kind, mode, who)
				}
				if May(n, who, 7) != (May(n, who, 6) && May(n, who, 1)) {
					t.Fatalf("kind %d, mode %04o, who %v: all three", kind, mode, who)
				}
				if !May(n, who, 0) {
					t.Fatalf("kind %d, mode %04o, who %v: nothing", kind, mode, who)
				}
			}
		}
	}
}
