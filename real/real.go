// Package real is layer 1: see shared/doc/01-real.md.
package real

import (
	"math"
	"strconv"
	"strings"

	"gabion/api"
)

const (
	nanBits       = 0x7ff8000000000000 // math.NaN has other bits
	minusZeroBits = 1 << 63
	intEnd        = 1 << 63 // one past the greatest int64
	wholeEnd      = 1 << 53 // whole numbers nearer to 0 are printed in decimal digits
	hexDigits     = 16
)

// Fix is a number with the one NaN.
func Fix(x float64) float64 {
	if math.IsNaN(x) {
		return math.Float64frombits(nanBits)
	}
	return x
}

// Bits are the bits of a number, fixed.
func Bits(x float64) uint64 {
	return math.Float64bits(Fix(x))
}

// Of is the number of bits, fixed.
func Of(bits uint64) float64 {
	return Fix(math.Float64frombits(bits))
}

// Same goes by the bits, since == takes both noughts for one and a NaN for none.
func Same(a, b float64) bool {
	return Bits(a) == Bits(b)
}

// FromInt is the float that is just as great.
func FromInt(n int64) (float64, api.Errno) {
	x := float64(n)
	if back, e := ToInt(x); e != api.OK || back != n {
		return 0, api.ErrLossy
	}
	return x, api.OK
}

// ToInt is the whole number that is just as great.
func ToInt(x float64) (int64, api.Errno) {
	// What int64 makes of a float beyond its range hangs on the machine, so that is asked first; a NaN is in no range.
	inRange := -intEnd <= x && x < intEnd
	if !inRange || isMinusZero(x) {
		return 0, api.ErrLossy
	}
	n := int64(x)
	if float64(n) != x {
		return 0, api.ErrLossy
	}
	return n, api.OK
}

func isMinusZero(x float64) bool {
	return Bits(x) == minusZeroBits
}

// Print is a number's text.
func Print(x float64) string {
	switch {
	case math.IsNaN(x):
		return "nan"
	case math.IsInf(x, 1):
		return "inf"
	case math.IsInf(x, -1):
		return "-inf"
	case isMinusZero(x):
		return "-0"
	}
	if n, e := ToInt(x); e == api.OK && -wholeEnd < n && n < wholeEnd {
		return strconv.FormatInt(n, 10)
	}
	return printBits(Bits(x))
}

func printBits(bits uint64) string {
	digits := strconv.FormatUint(bits, 16)
	return "x" + strings.Repeat("0", hexDigits-len(digits)) + digits
}

// Parse is the number whose text it is.
func Parse(s string) (float64, api.Errno) {
	x, ok := guess(s)
	// guess takes more than the one text of each float; holding s against that one text refuses the others.
	if !ok || Print(x) != s {
		return 0, api.ErrText
	}
	return x, api.OK
}

// guess is the only float whose text s might be.
func guess(s string) (float64, bool) {
	switch s {
	case "nan":
		return Of(nanBits), true
	case "inf":
		return math.Inf(1), true
	case "-inf":
		return math.Inf(-1), true
	case "-0":
		return Of(minusZeroBits), true
	}
	if digits, ok := strings.CutPrefix(s, "x"); ok {
		bits, err := strconv.ParseUint(digits, 16, 64)
		return Of(bits), err == nil
	}
	n, err := strconv.ParseInt(s, 10, 64)
	return float64(n), err == nil
}
