package digits

import (
	"math"
	"math/big"
	"strings"
	"testing"
)

const (
	least    = math.MinInt64
	greatest = math.MaxInt64
)

// numbers are those at which a sum, a sign or a count of digits changes.
func numbers() []int64 {
	l := []int64{0, least, least + 1, greatest, greatest - 1}
	for bit := range 63 {
		n := int64(1) << bit
		l = append(l, n-1, n, n+1, -n, 1-n, -n-1)
	}
	for n, i := int64(1), 0; i < 18; i++ {
		n *= 10
		l = append(l, n-1, n, n+1, -n, 1-n)
	}
	return append(l, greatest/100, greatest/100+1, greatest/3, 7, 33, 34, 99, 101)
}

// P1.1

func TestDec(t *testing.T) {
	for _, c := range []struct {
		n    int64
		want string
	}{
		{0, "0"}, {7, "7"}, {10, "10"}, {1234567890, "1234567890"},
		{-1, "-1"}, {-90, "-90"},
		{greatest, "9223372036854775807"}, {least, "-9223372036854775808"},
	} {
		if got := Dec(c.n); got != c.want {
			t.Errorf("Dec(%d): %q, want %q", c.n, got, c.want)
		}
	}
}

func TestOctAndHex(t *testing.T) {
	for _, c := range []struct {
		n        uint64
		oct, hex string
	}{
		{0, "0", "0"}, {7, "7", "7"}, {8, "10", "8"}, {10, "12", "a"}, {15, "17", "f"}, {16, "20", "10"},
		{0o755, "755", "1ed"}, {0xabcdef, "52746757", "abcdef"},
		{1 << 63, "1000000000000000000000", "8000000000000000"},
		{math.MaxUint64, "1777777777777777777777", "ffffffffffffffff"},
	} {
		if got := Oct(c.n); got != c.oct {
			t.Errorf("Oct(%d): %q, want %q", c.n, got, c.oct)
		}
		if got := Hex(c.n); got != c.hex {
			t.Errorf("Hex(%d): %q, want %q", c.n, got, c.hex)
		}
	}
}

func TestReadTakesWhatDecWrites(t *testing.T) {
	for _, n := range numbers() {
		if got, ok := Read(Dec(n)); got != n || !ok {
			t.Errorf("Read(%q): %d, %v", Dec(n), got, ok)
		}
	}
	if got, ok := Read("-9223372036854775808"); got != least || !ok {
		t.Errorf("Read of the least: %d, %v", got, ok)
	}
}

func TestReadRefusesAllElse(t *testing.T) {
	for _, s := range []string{
		"", "-", "+", "--1", "-+1", "+1", "+0", "-0", "00", "01", "-01", "0x1", "0b1", "0o7", "1_000", "_1",
		" 1", "1 ", "1\n", "\t1", "1.0", "1e3", "a", "1a", "ff", "-a", "1-", "1\x00", "\xff", "\u0661", "\u22121",
		"9223372036854775808", "-9223372036854775809", "18446744073709551616", "99999999999999999999",
		strings.Repeat("9", 1000), strings.Repeat("0", 1000) + "1",
	} {
		if n, ok := Read(s); n != 0 || ok {
			t.Errorf("Read(%q): %d, %v", s, n, ok)
		}
	}
}

// P1.2

func TestLeftAndRight(t *testing.T) {
	for _, c := range []struct {
		s         string
		width, to int
		blanks    int
	}{
		{"ab", 2, 4, 2}, {"ab", 2, 3, 1}, {"ab", 2, 2, 0}, {"ab", 2, 1, 0}, {"ab", 2, 0, 0},
		{"", 0, 3, 3}, {"", 0, 0, 0}, {" a ", 3, 5, 2},
		// The width is told, not counted.
		{"\u3042", 2, 5, 3}, {"\u3042", 1, 5, 4}, {"abc", 0, 2, 2}, {"", 4, 6, 2}, {"\xff", 1, 2, 1},
		{"ab", -1, 4, 4}, {"ab", math.MinInt, 4, 4}, {"ab", -5, 0, 0},
		{"ab", 2, -1, 0}, {"ab", 2, math.MinInt, 0}, {"ab", -3, -1, 0}, {"ab", math.MinInt, math.MinInt, 0},
		{"ab", 2, 10000, 9998}, {"ab", 2, 10001, 9998}, {"ab", 2, math.MaxInt, 9998}, {"ab", 0, 9999, 9999},
		{"ab", 9999, 10000, 1}, {"ab", 10000, 10000, 0}, {"ab", 9999, 20000, 1}, {"ab", 10000, 20000, 0},
		{"ab", 10001, 20000, 0}, {"ab", math.MaxInt - 1, math.MaxInt, 0}, {"ab", math.MaxInt, math.MaxInt, 0},
		{"ab", math.MaxInt, 3, 0}, {"ab", math.MinInt, math.MaxInt, 10000},
	} {
		pad := strings.Repeat(" ", c.blanks)
		if got := Left(c.s, c.width, c.to); got != c.s+pad {
			t.Errorf("Left(%q, %d, %d): %d bytes, want %d blanks behind", c.s, c.width, c.to, len(got), c.blanks)
		}
		if got := Right(c.s, c.width, c.to); got != pad+c.s {
			t.Errorf("Right(%q, %d, %d): %d bytes, want %d blanks ahead", c.s, c.width, c.to, len(got), c.blanks)
		}
	}
}

func TestPadLongTextStays(t *testing.T) {
	long := strings.Repeat("x", 20000)
	if Left(long, len(long), 30000) != long || Right(long, len(long), 30000) != long {
		t.Error("a text wider than 10000 is not left as it is")
	}
}

// P1.3

func TestCeil(t *testing.T) {
	for _, c := range []struct{ n, d, want int64 }{
		{7, 2, 4}, {8, 2, 4}, {9, 2, 5}, {1, 1, 1}, {1, 2, 1}, {1, greatest, 1}, {5, 5, 1}, {6, 5, 2},
		{0, 1, 0}, {-1, 1, 0}, {-3, 2, 0}, {least, 1, 0}, {1, 0, 0}, {7, -2, 0}, {7, least, 0},
		{-7, -2, 0}, {0, 0, 0}, {least, least, 0}, {least, -1, 0},
		{greatest, 1, greatest}, {greatest, 2, 1 << 62}, {greatest, greatest, 1},
		{greatest - 1, greatest, 1}, {greatest, greatest - 1, 2},
	} {
		if got := Ceil(c.n, c.d); got != c.want {
			t.Errorf("Ceil(%d, %d): %d, want %d", c.n, c.d, got, c.want)
		}
	}
}

func TestAdd(t *testing.T) {
	for _, c := range []struct {
		l    []int64
		want int64
	}{
		{nil, 0}, {[]int64{}, 0}, {[]int64{5}, 5}, {[]int64{-5}, -5}, {[]int64{1, 2, 3}, 6}, {[]int64{1, -2}, -1},
		{[]int64{greatest}, greatest}, {[]int64{least}, least},
		{[]int64{greatest, 1}, greatest}, {[]int64{1, greatest}, greatest}, {[]int64{greatest, greatest}, greatest},
		{[]int64{least, -1}, least}, {[]int64{-1, least}, least}, {[]int64{least, least}, least},
		{[]int64{greatest, least}, -1}, {[]int64{least, greatest}, -1},
		{[]int64{greatest - 1, 1}, greatest}, {[]int64{least + 1, -1}, least},
		// The cut is at each step, not at the end.
		{[]int64{greatest, 1, -1}, greatest - 1}, {[]int64{1, -1, greatest}, greatest},
		{[]int64{least, -1, 1}, least + 1}, {[]int64{1 << 62, 1 << 62, -1}, greatest - 1},
		{[]int64{greatest, greatest, least}, -1}, {[]int64{greatest, least, greatest}, greatest - 1},
		{[]int64{least, least, greatest, greatest}, greatest - 1},
	} {
		if got := Add(c.l...); got != c.want {
			t.Errorf("Add(%v): %d, want %d", c.l, got, c.want)
		}
	}
}

func TestAddLeavesItsList(t *testing.T) {
	all := []int64{greatest, 2, -3, 44, 55}
	Add(all[:3]...)
	for i, want := range []int64{greatest, 2, -3, 44, 55} {
		if all[i] != want {
			t.Errorf("place %d: %d, want %d", i, all[i], want)
		}
	}
}

func TestPercent(t *testing.T) {
	for _, c := range []struct{ part, whole, want int64 }{
		{1, 3, 34}, {1, 2, 50}, {2, 3, 67}, {1, 100, 1}, {1, 101, 1}, {1, 99, 2}, {3, 3, 100}, {4, 3, 134}, {5, 1, 500},
		{0, 5, 0}, {-1, 5, 0}, {5, 0, 0}, {5, -1, 0}, {-5, -5, 0}, {0, 0, 0},
		{least, 1, 0}, {1, least, 0}, {least, least, 0},
		{1, greatest, 1}, {greatest, greatest, 100}, {greatest - 1, greatest, 100}, {greatest, greatest - 1, 101},
		{1 << 62, 1 << 62, 100}, {greatest, 100, greatest}, {greatest - 1, 100, greatest - 1},
		{greatest, 101, 9132051521638391889}, {greatest, 99, greatest}, {greatest, 50, greatest}, {greatest, 49, greatest},
		{greatest, 1, greatest}, {greatest/100 + 1, 1, greatest}, {greatest / 100, 1, greatest - 7},
		// Here the share is the greatest, and only the rounding is beyond it.
		{9131138316486228049, 99, greatest},
	} {
		if got := Percent(c.part, c.whole); got != c.want {
			t.Errorf("Percent(%d, %d): %d, want %d", c.part, c.whole, got, c.want)
		}
	}
}

// cut is the nearest int64 to a whole number of any size.
func cut(n *big.Int) int64 {
	if n.IsInt64() {
		return n.Int64()
	}
	if n.Sign() < 0 {
		return least
	}
	return greatest
}

// ceiling is the rounded-up share, worked out without any bound.
func ceiling(n *big.Int, d int64) int64 {
	q, r := new(big.Int).QuoRem(n, big.NewInt(d), new(big.Int))
	if r.Sign() > 0 {
		q.Add(q, big.NewInt(1))
	}
	return cut(q)
}

func TestSumsAgainstBigNumbers(t *testing.T) {
	l := numbers()
	for _, a := range l {
		for _, b := range l {
			if got, want := Add(a, b), cut(new(big.Int).Add(big.NewInt(a), big.NewInt(b))); got != want {
				t.Fatalf("Add(%d, %d): %d, want %d", a, b, got, want)
			}
			var share, hundredths int64
			if a >= 1 && b >= 1 {
				share = ceiling(big.NewInt(a), b)
				hundredths = ceiling(new(big.Int).Mul(big.NewInt(a), big.NewInt(100)), b)
			}
			if got := Ceil(a, b); got != share {
				t.Fatalf("Ceil(%d, %d): %d, want %d", a, b, got, share)
			}
			if got := Percent(a, b); got != hundredths {
				t.Fatalf("Percent(%d, %d): %d, want %d", a, b, got, hundredths)
			}
		}
	}
}
