// Package digits is layer 1: see shared/doc/01-digits.md.
package digits

import (
	"math"
	"math/bits"
	"strconv"
	"strings"
)

// widest is the greatest width to which a text is padded.
const widest = 10000

// Dec writes n in decimal digits.
func Dec(n int64) string {
	return strconv.FormatInt(n, 10)
}

// Oct writes n in octal digits.
func Oct(n uint64) string {
	return strconv.FormatUint(n, 8)
}

// Hex writes n in hexadecimal digits.
func Hex(n uint64) string {
	return strconv.FormatUint(n, 16)
}

// Read tells the number whose Dec is s.
func Read(s string) (int64, bool) {
	n, err := strconv.ParseInt(s, 10, 64)
	// The library also takes texts that no Dec writes: +1, 01, -0.
	if err != nil || Dec(n) != s {
		return 0, false
	}
	return n, true
}

// Left pads s, which is width wide, with blanks behind it.
func Left(s string, width, to int) string {
	return s + blanks(place(width, to))
}

// Right pads s, which is width wide, with blanks ahead of it.
func Right(s string, width, to int) string {
	return blanks(place(width, to)) + s
}

// place is a column's place: the width that it has is the real part, the
// width that it shall have the imaginary one.
func place(width, to int) complex128 {
	return complex(bounded(width), bounded(to))
}

// bounded cuts a width, so that a float holds it exactly. A width that it has
// beyond widest needs no blanks either way, so the bound serves both parts.
func bounded(width int) float64 {
	return float64(min(max(width, 0), widest))
}

// blanks is what a column lacks at its place.
func blanks(p complex128) string {
	lack := int(imag(p) - real(p))
	return strings.Repeat(" ", max(lack, 0))
}

// Ceil tells the least number whose d-fold is n or more.
func Ceil(n, d int64) int64 {
	if n < 1 || d < 1 {
		return 0
	}
	// n+d-1 might be beyond the greatest int64; n-1 never is.
	return (n-1)/d + 1
}

// Add sums the numbers from the left on, cut at each step.
func Add(l ...int64) int64 {
	var sum int64
	for _, n := range l {
		sum = addTwo(sum, n)
	}
	return sum
}

// addTwo cuts the sum of two numbers to what an int64 holds.
func addTwo(a, b int64) int64 {
	if b > 0 && a > math.MaxInt64-b {
		return math.MaxInt64
	}
	if b < 0 && a < math.MinInt64-b {
		return math.MinInt64
	}
	return a + b
}

// Percent tells how many hundredths of whole the part is, rounded up.
func Percent(part, whole int64) int64 {
	if part < 1 || whole < 1 {
		return 0
	}
	// The hundredfold may need more than 64 bits, though the answer doesn't.
	high, low := bits.Mul64(uint64(part), 100)
	if high >= uint64(whole) {
		return math.MaxInt64
	}
	hundredths, rest := bits.Div64(high, low, uint64(whole))
	if hundredths >= math.MaxInt64 {
		return math.MaxInt64
	}
	if rest > 0 {
		hundredths++
	}
	return int64(hundredths)
}
