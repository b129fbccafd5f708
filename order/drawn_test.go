package order

import (
	"cmp"
	"fmt"
	"math/big"
	"math/rand"
	"slices"
	"sort"
	"strings"
	"testing"
)

// The answers worked out otherwise.

// piece is a token: a number, or a byte where there is none.
type piece struct {
	number *big.Int
	other  byte
}

// pieces are a name's tokens.
func pieces(name string) []piece {
	var told []piece
	digits := ""
	for i := 0; i <= len(name); i++ {
		if i < len(name) && strings.Contains("0123456789", name[i:i+1]) {
			digits += name[i : i+1]
			continue
		}
		if digits != "" {
			number, _ := new(big.Int).SetString(digits, 10)
			told = append(told, piece{number: number})
			digits = ""
		}
		if i < len(name) {
			told = append(told, piece{other: name[i]})
		}
	}
	return told
}

func versionAnew(a, b string) int {
	return slices.CompareFunc(pieces(a), pieces(b), func(p, q piece) int {
		switch {
		case p.number != nil && q.number != nil:
			return p.number.Cmp(q.number)
		case p.number != nil:
			return -1
		case q.number != nil:
			return 1
		}
		return int(p.other) - int(q.other)
	})
}

func extAnew(name string) string {
	parts := strings.Split(name, ".")
	ahead := strings.Join(parts[:len(parts)-1], ".")
	if ahead == "" {
		return ""
	}
	return "." + parts[len(parts)-1]
}

func compareAnew(order int, a, b Key) int {
	told := 0
	if order == 1 {
		told = -cmp.Compare(a.Size, b.Size)
	}
	if order == 2 {
		told = -cmp.Compare(a.Time, b.Time)
	}
	if order == 3 {
		told = slices.Compare([]byte(extAnew(a.Name)), []byte(extAnew(b.Name)))
	}
	if order == 4 {
		told = versionAnew(a.Name, b.Name)
	}
	if told == 0 {
		told = slices.Compare([]byte(a.Name), []byte(b.Name))
	}
	return sign(told)
}

func sign(n int) int {
	return cmp.Compare(n, 0)
}

func sortAnew(order int, reverse, dirs bool, l []Key) []int {
	places := make([]int, len(l))
	for i := range places {
		places[i] = i
	}
	way := 1
	if reverse {
		way = -1
	}
	sort.SliceStable(places, func(i, j int) bool {
		return way*compareAnew(order, l[places[i]], l[places[j]]) < 0
	})
	if dirs {
		sort.SliceStable(places, func(i, j int) bool {
			return l[places[i]].Dir && !l[places[j]].Dir
		})
	}
	return places
}

// shortNames are all names of at most three bytes of a few.
func shortNames(few string) []string {
	names, last := []string{""}, []string{""}
	for range 3 {
		var longer []string
		for _, name := range last {
			for i := range len(few) {
				longer = append(longer, name+few[i:i+1])
			}
		}
		names, last = append(names, longer...), longer
	}
	return names
}

// P10.1
func TestCompareOfAllShortNames(t *testing.T) {
	names := shortNames("019.a\xff")
	for _, a := range names {
		if got, want := Ext(a), extAnew(a); got != want {
			t.Errorf("Ext(%q) = %q, want %q", a, got, want)
		}
		for _, b := range names {
			if got, want := Version(a, b), sign(versionAnew(a, b)); got != want {
				t.Errorf("Version(%q, %q) = %d, want %d", a, b, got, want)
			}
			for _, order := range []int{0, 3, 4, -1} {
				if got, want := Compare(order, named(a), named(b)), compareAnew(order, named(a), named(b)); got != want {
					t.Errorf("Compare(%d, %q, %q) = %d, want %d", order, a, b, got, want)
				}
			}
		}
	}
}

// drawnName is made of few different pieces, so that names are often alike in part.
func drawnName(r *rand.Rand) string {
	parts := []string{
		"0", "00", "1", "9", "10", "a", "b", ".", ".", "-", "\xff", "\x80", "ä", "/", ":", "18446744073709551616",
	}
	name := ""
	for range r.Intn(6) {
		name += parts[r.Intn(len(parts))]
	}
	return name
}

func drawnKey(r *rand.Rand) Key {
	numbers := []int64{0, 1, -1, 1 << 40, -1 << 63, 1<<63 - 1}
	return Key{drawnName(r), numbers[r.Intn(6)], numbers[r.Intn(6)], r.Intn(2) == 0}
}

func drawnKeys(r *rand.Rand, n int) []Key {
	l := make([]Key, n)
	for i := range l {
		l[i] = drawnKey(r)
		if r.Intn(4) == 0 {
			// One name, perhaps one key, stands more than once.
			twin := l[r.Intn(i+1)]
			l[i].Name = twin.Name
			if r.Intn(2) == 0 {
				l[i] = twin
			}
		}
	}
	return l
}

// P10.1, P10.2
func TestDrawnKeys(t *testing.T) {
	r := rand.New(rand.NewSource(10))
	for n := range 80 {
		l := drawnKeys(r, n)
		before := slices.Clone(l)
		inAllWays(func(order int, reverse, dirs bool) {
			got, want := Sort(order, reverse, dirs, l), sortAnew(order, reverse, dirs, l)
			if !slices.Equal(got, want) {
				t.Fatalf("Sort(%d, %v, %v, %+v) = %v, want %v", order, reverse, dirs, l, got, want)
			}
		})
		for _, order := range orders {
			for range n {
				a, b := l[r.Intn(n)], l[r.Intn(n)]
				if got, want := Compare(order, a, b), compareAnew(order, a, b); got != want {
					t.Fatalf("Compare(%d, %+v, %+v) = %d, want %d", order, a, b, got, want)
				}
			}
		}
		if !slices.Equal(l, before) {
			t.Fatal("the keys have changed")
		}
	}
}

// P10.2: places don't hang on the keys' number being a power of two, nor on how they stood.
func TestAllWaysToStand(t *testing.T) {
	names := []string{"a", "b", "b", "c", "d"}
	for n := range len(names) + 1 {
		ways := 0
		stand(nil, n, func(l []int) {
			ways++
			keys := make([]Key, n)
			for i, at := range l {
				keys[i] = Key{Name: names[at], Size: int64(at), Dir: at%2 == 0}
			}
			inAllWays(func(order int, reverse, dirs bool) {
				got, want := Sort(order, reverse, dirs, keys), sortAnew(order, reverse, dirs, keys)
				if !slices.Equal(got, want) {
					t.Fatalf("Sort(%d, %v, %v, %+v) = %v, want %v", order, reverse, dirs, keys, got, want)
				}
			})
		})
		if want := []int{1, 1, 2, 6, 24, 120}[n]; ways != want {
			t.Fatalf("%d ways for %d keys", ways, n)
		}
	}
}

// stand calls try with all ways in which the numbers below n may stand.
func stand(l []int, n int, try func(l []int)) {
	if len(l) == n {
		try(l)
	}
	for i := range n {
		if !slices.Contains(l, i) {
			stand(append(slices.Clone(l), i), n, try)
		}
	}
}

// P10.3
func TestOrdersAreTotal(t *testing.T) {
	r := rand.New(rand.NewSource(3))
	l := drawnKeys(r, 60)
	for _, order := range orders {
		for _, a := range l {
			for _, b := range l {
				totalOfTwo(t, order, a, b)
				for _, c := range l {
					if Compare(order, a, b) <= 0 && Compare(order, b, c) <= 0 && Compare(order, a, c) > 0 {
						t.Fatalf("order %d: %+v, %+v, %+v go round", order, a, b, c)
					}
				}
			}
		}
	}
}

// totalOfTwo asks whether just one of two keys is ahead, where their names differ.
func totalOfTwo(t *testing.T, order int, a, b Key) {
	t.Helper()
	told := Compare(order, a, b)
	if told < -1 || told > 1 {
		t.Fatalf("Compare(%d, %+v, %+v) = %d", order, a, b, told)
	}
	if told != -Compare(order, b, a) {
		t.Fatalf("order %d: both ways of %+v, %+v tell the same", order, a, b)
	}
	if told == 0 && a.Name != b.Name {
		t.Fatalf("order %d: %+v and %+v are alike", order, a, b)
	}
	if told != 0 && a == b {
		t.Fatalf("order %d: %+v isn't alike itself", order, a)
	}
}

// P10.3: however keys of different names stood, they come into one order.
func TestSortHangsOnKeysAlone(t *testing.T) {
	r := rand.New(rand.NewSource(31))
	var l []Key
	for _, name := range shortNames("07.b") {
		k := drawnKey(r)
		k.Name = name
		l = append(l, k)
	}
	inAllWays(func(order int, reverse, dirs bool) {
		want := inOrder(order, reverse, dirs, l)
		for range 3 {
			r.Shuffle(len(l), func(i, j int) { l[i], l[j] = l[j], l[i] })
			if got := inOrder(order, reverse, dirs, l); !slices.Equal(got, want) {
				t.Fatalf("order %d, reverse %v, dirs %v hang on how the keys stood", order, reverse, dirs)
			}
		}
	})
}

func inOrder(order int, reverse, dirs bool, l []Key) []Key {
	var keys []Key
	for _, place := range Sort(order, reverse, dirs, l) {
		keys = append(keys, l[place])
	}
	return keys
}

// P10.2: many keys, in order and against it.
func TestSortOfManyKeys(t *testing.T) {
	const many = 200000
	l := make([]Key, many)
	for i := range l {
		l[i] = Key{Name: fmt.Sprintf("f%d", i), Size: int64(i % 7), Time: int64(i)}
	}
	for _, order := range []int{0, 1, 2, 3, 4} {
		for _, reverse := range []bool{false, true} {
			places := Sort(order, reverse, false, l)
			for i := 1; i < many; i++ {
				told := compareAnewOnce(order, l[places[i-1]], l[places[i]])
				if told != -1 && !reverse || told != 1 && reverse {
					t.Fatalf("order %d, reverse %v: place %d is %d", order, reverse, i, told)
				}
			}
		}
	}
}

// compareAnewOnce spares what compareAnew would take for numbers in many names.
func compareAnewOnce(order int, a, b Key) int {
	if order != 4 {
		return compareAnew(order, a, b)
	}
	return cmp.Or(cmp.Compare(len(a.Name), len(b.Name)), strings.Compare(a.Name, b.Name))
}
