package usage

import (
	"math"
	"math/big"
	"math/rand"
	"testing"
)

// most is the greatest number of blocks whose bytes an int64 holds.
const most = math.MaxInt64 / 512

// P14.1
func TestUnits(t *testing.T) {
	for _, c := range []struct{ blocks, unit, want int64 }{
		{8, 1, 4096}, {8, 2, 2048}, {8, 512, 8}, {8, 1000, 5}, {8, 1024, 4}, {8, 4096, 1},
		{8, 0, 4}, {8, -1, 4}, {8, -512, 4}, {8, math.MaxInt64, 1}, {8, math.MinInt64, 4},
		{1, 1, 512}, {1, 511, 2}, {1, 512, 1}, {1, 513, 1}, {1, 1024, 1}, {1, 0, 1}, {1, -1, 1},
		{1, math.MaxInt64, 1}, {1, math.MinInt64, 1},
		{2, 1024, 1}, {3, 1024, 2}, {4, 1024, 2}, {5, 1024, 3}, {8, 4095, 2}, {8, 4097, 1}, {9, 4096, 2},
		{0, 1, 0}, {0, 1024, 0}, {0, 0, 0}, {0, -1, 0}, {0, math.MaxInt64, 0}, {0, math.MinInt64, 0},
		{-1, 1, 0}, {-1, 1024, 0}, {-8, 0, 0}, {-8, -8, 0}, {math.MinInt64, 1, 0}, {math.MinInt64, math.MinInt64, 0},
		{math.MinInt64 + 1, 512, 0}, {-most, 1, 0}, {-most - 2, 1, 0}, {-most - 3, 1024, 0},
		{most - 1, 1, math.MaxInt64 - 1023}, {most, 1, math.MaxInt64 - 511}, {most + 1, 1, math.MaxInt64},
		{most + 2, 1, math.MaxInt64}, {math.MaxInt64, 1, math.MaxInt64}, {2 * most, 1, math.MaxInt64},
		{most, 512, most}, {most + 1, 512, most + 1}, {most + 2, 512, most + 1}, {math.MaxInt64, 512, most + 1},
		{most, 1024, 1 << 53}, {most + 1, 1024, 1 << 53}, {math.MaxInt64, 0, 1 << 53}, {math.MaxInt64, -9, 1 << 53},
		{most - 1, 1024, 1<<53 - 1}, {most, math.MaxInt64, 1}, {math.MaxInt64, math.MaxInt64, 1},
		{math.MaxInt64, math.MaxInt64 - 1, 2}, {most, math.MaxInt64 - 511, 1}, {most, math.MaxInt64 - 512, 2},
		{math.MaxInt64, math.MinInt64, 1 << 53},
	} {
		if got := Units(c.blocks, c.unit); got != c.want {
			t.Errorf("Units(%d, %d): %d, want %d", c.blocks, c.unit, got, c.want)
		}
	}
}

// unitsAnew are some blocks' units, worked out by numbers of any size.
func unitsAnew(blocks, unit int64) int64 {
	if blocks <= 0 {
		return 0
	}
	if unit <= 0 {
		unit = 1024
	}
	bytes := new(big.Int).Mul(big.NewInt(blocks), big.NewInt(512))
	if !bytes.IsInt64() {
		bytes.SetInt64(math.MaxInt64)
	}
	whole, rest := new(big.Int).DivMod(bytes, big.NewInt(unit), new(big.Int))
	if rest.Sign() > 0 {
		whole.Add(whole, big.NewInt(1))
	}
	return whole.Int64()
}

// P14.1: of all that is small, and of what is about the edges.
func TestUnitsOtherwise(t *testing.T) {
	check := func(blocks, unit int64) {
		t.Helper()
		if got, want := Units(blocks, unit), unitsAnew(blocks, unit); got != want {
			t.Fatalf("Units(%d, %d): %d, want %d", blocks, unit, got, want)
		}
	}
	for blocks := int64(-3); blocks < 40; blocks++ {
		for unit := int64(-3); unit < 5200; unit++ {
			check(blocks, unit)
		}
	}
	edges := []int64{math.MinInt64, -most, -1024, 0, 512, 1024, most, 2 * most, 1 << 32, math.MaxInt64}
	for _, blocks := range edges {
		for _, unit := range edges {
			for by := int64(-3); by <= 3; by++ {
				check(blocks+by, unit)
				check(blocks, unit+by)
			}
		}
	}
	random := rand.New(rand.NewSource(14))
	for range 200000 {
		check(int64(random.Uint64()>>random.Intn(64)), int64(random.Uint64()>>random.Intn(64)))
	}
}
