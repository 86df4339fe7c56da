package real_test

import (
	"math"
	"math/big"
	"math/bits"
	"strconv"
	"strings"
	"testing"

	"gabion/api"
	"gabion/real"
)

const (
	theNaN    = 0x7ff8000000000000
	minusZero = 1 << 63
	plusInf   = 0x7ff0000000000000
	minusInf  = 0xfff0000000000000
)

// otherNaNs are bits of NaNs that are not the one: quiet and signalling ones, of either sign, the ends of each row among them.
var otherNaNs = []uint64{
	0x7ff0000000000001, 0x7ff0000000000002, 0x7ff4000000000000, 0x7ff7ffffffffffff,
	0x7ff8000000000001, 0x7ff8000000000002, 0x7ffc000000000000, 0x7fffffffffffffff,
	0xfff0000000000001, 0xfff0000000000007, 0xfff7ffffffffffff,
	0xfff8000000000000, 0xfff8000000000001, 0xffffffffffffffff,
}

// edgeBits are bits of floats at the edges: no NaN but the one.
var edgeBits = []uint64{
	0, minusZero, theNaN, plusInf, minusInf,
	0x0000000000000001, 0x8000000000000001, // the smallest ones
	0x000fffffffffffff, 0x800fffffffffffff, // the greatest ones of few digits
	0x0010000000000000, 0x8010000000000000, // the smallest ones of all digits
	0x7fefffffffffffff, 0xffefffffffffffff, // the greatest ones
	0x3fe0000000000000, 0xbfe0000000000000, // 0.5
	0x3fefffffffffffff, 0xbfefffffffffffff, // just below 1
	0x3ff0000000000000, 0xbff0000000000000, // 1
	0x3ff0000000000001, 0xbff0000000000001, // just above 1
	0x4028000000000000, 0xc028000000000000, // 12
	0x432fffffffffffff, 0xc32fffffffffffff, // 2^52 - 0.5
	0x4330000000000000, 0xc330000000000000, // 2^52
	0x433fffffffffffff, 0xc33fffffffffffff, // 2^53 - 1
	0x4340000000000000, 0xc340000000000000, // 2^53
	0x4340000000000001, 0xc340000000000001, // 2^53 + 2
	0x43dfffffffffffff, 0xc3dfffffffffffff, // 2^63 - 1024
	0x43e0000000000000, 0xc3e0000000000000, // 2^63
	0x43e0000000000001, 0xc3e0000000000001, // 2^63 + 2048
	0x43f0000000000000, 0xc3f0000000000000, // 2^64
	0x123456789abcdef0, 0xfedcba9876543210,
}

// edgeInts are whole numbers at the edges.
var edgeInts = []int64{
	0, 1, -1, 2, -2, 9, -9, 10, -10, 12, -12, 99, 100, 101, 1000000,
	1<<52 - 1, 1 << 52, 1<<52 + 1, -1<<52 + 1, -1 << 52, -1<<52 - 1,
	1<<53 - 2, 1<<53 - 1, 1 << 53, 1<<53 + 1, 1<<53 + 2, 1<<53 + 3, 1<<53 + 4,
	-1<<53 + 2, -1<<53 + 1, -1 << 53, -1<<53 - 1, -1<<53 - 2, -1<<53 - 3, -1<<53 - 4,
	1<<54 - 2, 1<<54 - 1, 1 << 54, 1<<54 + 1, 1<<54 + 2, 1<<54 + 4,
	-1<<54 - 1, -1<<54 - 2, -1<<54 - 4,
	1<<62 - 1, 1 << 62, 1<<62 + 1, -1 << 62, -1<<62 - 1, -1<<62 + 1,
	math.MaxInt64, math.MaxInt64 - 1, math.MaxInt64 - 511, math.MaxInt64 - 512, math.MaxInt64 - 1023, math.MaxInt64 - 1024,
	math.MinInt64, math.MinInt64 + 1, math.MinInt64 + 512, math.MinInt64 + 1023, math.MinInt64 + 1024, math.MinInt64 + 2048,
}

// mixed is the n-th of a row of well mixed words, the same ones in every run.
func mixed(n uint64) uint64 {
	z := (n + 1) * 0x9e3779b97f4a7c15
	z = (z ^ z>>30) * 0xbf58476d1ce4e5b9
	z = (z ^ z>>27) * 0x94d049bb133111eb
	return z ^ z>>31
}

// manyBits are the edges' bits, all other NaNs', mixed ones, and such of floats near whole numbers of every size.
func manyBits() []uint64 {
	l := append([]uint64(nil), edgeBits...)
	l = append(l, otherNaNs...)
	for _, n := range edgeInts {
		l = append(l, math.Float64bits(float64(n)))
	}
	for n := range uint64(20000) {
		w := mixed(n)
		l = append(l, w)
		whole := math.Float64bits(float64(int64(w) >> (n % 64)))
		l = append(l, whole, whole+1, whole-1)
	}
	return l
}

// manyInts are the edges, mixed whole numbers of every size, and powers of 2 with their neighbours.
func manyInts() []int64 {
	l := append([]int64(nil), edgeInts...)
	for n := range uint64(20000) {
		w := int64(mixed(n))
		l = append(l, w, w>>(n%64), w>>(n%64)<<(n%17))
	}
	for k := range 64 {
		p := int64(1) << k
		l = append(l, p-2, p-1, p, p+1, p+2, -p-2, -p-1, -p, -p+1, -p+2)
	}
	return l
}

func isNaNBits(b uint64) bool {
	return b&^minusZero > plusInf
}

// fixedBits are what the bits of a float are, fixed.
func fixedBits(b uint64) uint64 {
	if isNaNBits(b) {
		return theNaN
	}
	return b
}

// holds tells whether some float is just n: from its first to its last binary digit it has at most 53.
func holds(n int64) bool {
	if n == 0 {
		return true
	}
	u := uint64(n)
	if n < 0 {
		u = -u
	}
	return bits.Len64(u)-bits.TrailingZeros64(u) <= 53
}

// wantInt is what ToInt must answer, worked out by numbers of any length.
func wantInt(b uint64) (int64, api.Errno) {
	if b == minusZero || b&plusInf == plusInf {
		return 0, api.ErrLossy
	}
	whole, how := new(big.Float).SetFloat64(math.Float64frombits(b)).Int(nil)
	if how != big.Exact || !whole.IsInt64() {
		return 0, api.ErrLossy
	}
	return whole.Int64(), api.OK
}

// wantText is what Print must answer.
func wantText(b uint64) string {
	switch b = fixedBits(b); b {
	case theNaN:
		return "nan"
	case plusInf:
		return "inf"
	case minusInf:
		return "-inf"
	case minusZero:
		return "-0"
	}
	if n, e := wantInt(b); e == api.OK && n > -9007199254740992 && n < 9007199254740992 {
		return big.NewInt(n).String()
	}
	s := []byte("x................")
	for k := range 16 {
		s[16-k] = "0123456789abcdef"[b>>(4*k)&15]
	}
	return string(s)
}

// TestFix: P1.1.
func TestFix(t *testing.T) {
	for _, b := range manyBits() {
		x := math.Float64frombits(b)
		if got := math.Float64bits(real.Fix(x)); got != fixedBits(b) {
			t.Errorf("Fix of the bits %016x has the bits %016x", b, got)
		}
	}
	if math.Float64bits(real.Fix(math.NaN())) != theNaN {
		t.Error("Fix of the library's NaN")
	}
}

// TestBits: P1.1.
func TestBits(t *testing.T) {
	for _, b := range manyBits() {
		if got := real.Bits(math.Float64frombits(b)); got != fixedBits(b) {
			t.Errorf("Bits of the bits %016x is %016x", b, got)
		}
	}
	for _, c := range []struct {
		x float64
		b uint64
	}{
		{0, 0}, {math.Copysign(0, -1), minusZero}, {1, 0x3ff0000000000000}, {-2, 0xc000000000000000},
		{math.Inf(1), plusInf}, {math.Inf(-1), minusInf}, {math.NaN(), theNaN}, {-math.NaN(), theNaN},
		{math.SmallestNonzeroFloat64, 1}, {math.MaxFloat64, 0x7fefffffffffffff},
	} {
		if got := real.Bits(c.x); got != c.b {
			t.Errorf("Bits(%v) = %016x, want %016x", c.x, got, c.b)
		}
	}
}

// TestOf: P1.1.
func TestOf(t *testing.T) {
	for _, b := range manyBits() {
		if got := math.Float64bits(real.Of(b)); got != fixedBits(b) {
			t.Errorf("Of(%016x) has the bits %016x", b, got)
		}
	}
	if real.Of(0x4028000000000000) != 12 || real.Of(0xbfe0000000000000) != -0.5 {
		t.Error("Of ordinary floats")
	}
}

// TestSame: P1.1.
func TestSame(t *testing.T) {
	l := append(append([]uint64(nil), edgeBits...), otherNaNs...)
	for _, a := range l {
		for _, b := range l {
			want := fixedBits(a) == fixedBits(b)
			if got := real.Same(math.Float64frombits(a), math.Float64frombits(b)); got != want {
				t.Errorf("Same of the bits %016x, %016x = %v", a, b, got)
			}
		}
	}
	if real.Same(0, math.Copysign(0, -1)) || !real.Same(0.1, 0.1) || real.Same(1, -1) {
		t.Error("Same of noughts or ordinary floats")
	}
}

// TestFromInt: P1.2.
func TestFromInt(t *testing.T) {
	for _, n := range manyInts() {
		x, e := real.FromInt(n)
		if !holds(n) {
			if e != api.ErrLossy || math.Float64bits(x) != 0 {
				t.Errorf("FromInt(%d) = %v, %d; want 0, ErrLossy", n, x, e)
			}
			continue
		}
		whole, how := new(big.Float).SetFloat64(x).Int(nil)
		if e != api.OK || how != big.Exact || whole.Cmp(big.NewInt(n)) != 0 {
			t.Errorf("FromInt(%d) = %v, %d", n, x, e)
		}
	}
	for _, c := range []struct {
		n int64
		x float64
		e api.Errno
	}{
		{0, 0, api.OK}, {7, 7, api.OK}, {-7, -7, api.OK},
		{9007199254740991, 9007199254740991, api.OK}, {9007199254740992, 9007199254740992, api.OK},
		{9007199254740993, 0, api.ErrLossy}, {9007199254740994, 9007199254740994, api.OK},
		{-9007199254740991, -9007199254740991, api.OK}, {-9007199254740992, -9007199254740992, api.OK},
		{-9007199254740993, 0, api.ErrLossy}, {-9007199254740994, -9007199254740994, api.OK},
		{9223372036854775807, 0, api.ErrLossy}, {9223372036854774784, 9223372036854774784, api.OK},
		{-9223372036854775808, -9223372036854775808, api.OK}, {-9223372036854775807, 0, api.ErrLossy},
	} {
		if x, e := real.FromInt(c.n); math.Float64bits(x) != math.Float64bits(c.x) || e != c.e {
			t.Errorf("FromInt(%d) = %v, %d; want %v, %d", c.n, x, e, c.x, c.e)
		}
	}
}

// TestToInt: P1.2.
func TestToInt(t *testing.T) {
	for _, b := range manyBits() {
		want, wantE := wantInt(b)
		if n, e := real.ToInt(math.Float64frombits(b)); n != want || e != wantE {
			t.Errorf("ToInt of the bits %016x = %d, %d; want %d, %d", b, n, e, want, wantE)
		}
	}
	for _, c := range []struct {
		x float64
		n int64
		e api.Errno
	}{
		{0, 0, api.OK}, {math.Copysign(0, -1), 0, api.ErrLossy},
		{3, 3, api.OK}, {-3, -3, api.OK}, {0.5, 0, api.ErrLossy}, {-0.5, 0, api.ErrLossy}, {2.5, 0, api.ErrLossy},
		{math.SmallestNonzeroFloat64, 0, api.ErrLossy}, {-math.SmallestNonzeroFloat64, 0, api.ErrLossy},
		{math.Inf(1), 0, api.ErrLossy}, {math.Inf(-1), 0, api.ErrLossy}, {math.NaN(), 0, api.ErrLossy},
		{1 << 53, 1 << 53, api.OK}, {1<<53 + 2, 1<<53 + 2, api.OK}, {-1 << 53, -1 << 53, api.OK},
		{1 << 63, 0, api.ErrLossy}, {1<<63 - 1024, 1<<63 - 1024, api.OK},
		{-1 << 63, math.MinInt64, api.OK}, {-1<<63 - 2048, 0, api.ErrLossy},
		{1e300, 0, api.ErrLossy}, {-1e300, 0, api.ErrLossy}, {math.MaxFloat64, 0, api.ErrLossy},
	} {
		if n, e := real.ToInt(c.x); n != c.n || e != c.e {
			t.Errorf("ToInt(%v) = %d, %d; want %d, %d", c.x, n, e, c.n, c.e)
		}
	}
}

// TestPrint: P1.3.
func TestPrint(t *testing.T) {
	for _, b := range manyBits() {
		if got := real.Print(math.Float64frombits(b)); got != wantText(b) {
			t.Errorf("Print of the bits %016x = %q, want %q", b, got, wantText(b))
		}
	}
	for _, c := range texts {
		if got := real.Print(math.Float64frombits(c.b)); got != c.s {
			t.Errorf("Print of the bits %016x = %q, want %q", c.b, got, c.s)
		}
	}
	for _, b := range otherNaNs {
		if got := real.Print(math.Float64frombits(b)); got != "nan" {
			t.Errorf("Print of the bits %016x = %q", b, got)
		}
	}
}

// texts are floats' bits and their texts, written out by hand.
var texts = []struct {
	b uint64
	s string
}{
	{theNaN, "nan"}, {plusInf, "inf"}, {minusInf, "-inf"}, {minusZero, "-0"}, {0, "0"},
	{0x3ff0000000000000, "1"}, {0xbff0000000000000, "-1"},
	{0x4024000000000000, "10"}, {0xc028000000000000, "-12"}, {0x408f400000000000, "1000"},
	{0x3fe0000000000000, "x3fe0000000000000"}, {0xbfe0000000000000, "xbfe0000000000000"},
	{0x3ff8000000000000, "x3ff8000000000000"},
	{0x433fffffffffffff, "9007199254740991"}, {0xc33fffffffffffff, "-9007199254740991"},
	{0x433ffffffffffffe, "9007199254740990"}, {0xc33ffffffffffffe, "-9007199254740990"},
	{0x4340000000000000, "x4340000000000000"}, {0xc340000000000000, "xc340000000000000"},
	{0x4340000000000001, "x4340000000000001"}, {0xc340000000000001, "xc340000000000001"},
	{0x43e0000000000000, "x43e0000000000000"}, {0xc3e0000000000000, "xc3e0000000000000"},
	{1, "x0000000000000001"}, {0x8000000000000001, "x8000000000000001"},
	{0x7fefffffffffffff, "x7fefffffffffffff"}, {0xffefffffffffffff, "xffefffffffffffff"},
	{0x00abcdef00000000, "x00abcdef00000000"},
}

// noTexts are texts that no float has.
var noTexts = []string{
	// the chapter's own
	"x3ff0000000000000", "01", "NaN", "9007199254740992", "",
	// digits
	"00", "-00", "-01", "007", "+1", "+0", "--1", "-", "+", "1-", "1.5", "1.0", ".5", "1.", "1e3", "1_000", "1,000",
	"0x10", "0b1", "0o7", "1a", "a", "ff", "\u0661", "\uff11",
	"9007199254740993", "-9007199254740992", "-9007199254740993", "10000000000000000",
	"9223372036854775807", "9223372036854775808", "-9223372036854775808", "-9223372036854775809",
	"18446744073709551616", "100000000000000000000000000000",
	strings.Repeat("9", 1000), strings.Repeat("0", 1000),
	// words
	"nAn", "NAN", "-nan", "+nan", "nan ", "nana", "na", "Inf", "INF", "+inf", "-Inf", "--inf", "infinity", "-infinity", "in", "∞",
	// bits
	"x", "x0", "x1", "x3fe000000000000", "x3fe00000000000000", "x03fe0000000000000", "3fe0000000000000",
	"x3FE0000000000000", "X3fe0000000000000", "xx3fe0000000000000", "-x3fe0000000000000", "x-3fe0000000000000",
	"x+3fe000000000000", "x-3fe000000000000", "x3fe000000000000g", "x3fe0_00000000000", "x0x3fe00000000000", "x3fe00000000000 0",
	"x0000000000000000", "x8000000000000000", "x7ff0000000000000", "xfff0000000000000",
	"x7ff8000000000000", "x7ff8000000000001", "x7ff0000000000001", "xfff8000000000000", "xffffffffffffffff",
	"xbff0000000000000", "x4028000000000000", "x433fffffffffffff", "xc33fffffffffffff",
	// what stands around
	" ", " 1", "1 ", "\t1", "1\n", "\n", "1\x00", "\x00", "1 2", "x3fe0000000000000 ", " x3fe0000000000000", "\xff", "x3fe000000000000\xff",
}

// TestParse: P1.4.
func TestParse(t *testing.T) {
	for _, c := range texts {
		if x, e := real.Parse(c.s); e != api.OK || math.Float64bits(x) != c.b {
			t.Errorf("Parse(%q) = %016x, %d; want %016x", c.s, math.Float64bits(x), e, c.b)
		}
	}
	for _, s := range noTexts {
		if x, e := real.Parse(s); e != api.ErrText || math.Float64bits(x) != 0 {
			t.Errorf("Parse(%q) = %016x, %d; want 0, ErrText", s, math.Float64bits(x), e)
		}
	}
}

// TestParseBits: P1.4: of texts of bits just those are taken whose float has no other text.
func TestParseBits(t *testing.T) {
	for _, b := range manyBits() {
		digits := strconv.FormatUint(b, 16)
		s := "x" + strings.Repeat("0", 16-len(digits)) + digits
		x, e := real.Parse(s)
		if s == wantText(b) {
			if e != api.OK || math.Float64bits(x) != b {
				t.Errorf("Parse(%q) = %016x, %d", s, math.Float64bits(x), e)
			}
		} else if e != api.ErrText || math.Float64bits(x) != 0 {
			t.Errorf("Parse(%q) = %016x, %d; want 0, ErrText", s, math.Float64bits(x), e)
		}
	}
}

// TestParseInts: P1.4: of decimal digits just those are taken whose number lies above -2^53 and below 2^53.
func TestParseInts(t *testing.T) {
	for _, n := range manyInts() {
		s := strconv.FormatInt(n, 10)
		x, e := real.Parse(s)
		if n > -1<<53 && n < 1<<53 {
			if e != api.OK || math.Float64bits(x) != math.Float64bits(float64(n)) {
				t.Errorf("Parse(%q) = %v, %d", s, x, e)
			}
		} else if e != api.ErrText || math.Float64bits(x) != 0 {
			t.Errorf("Parse(%q) = %v, %d; want 0, ErrText", s, x, e)
		}
	}
}

// TestBitsThereAndBack: P1.5.
func TestBitsThereAndBack(t *testing.T) {
	for _, b := range manyBits() {
		x := math.Float64frombits(b)
		if !real.Same(real.Of(real.Bits(x)), x) {
			t.Errorf("Of(Bits(x)) of the bits %016x", b)
		}
		if got := real.Bits(real.Of(b)); got != fixedBits(b) {
			t.Errorf("Bits(Of(%016x)) = %016x", b, got)
		}
	}
}

// TestWholeThereAndBack: P1.6.
func TestWholeThereAndBack(t *testing.T) {
	for _, b := range manyBits() {
		x := math.Float64frombits(b)
		n, e := real.ToInt(x)
		if e != api.OK {
			continue
		}
		if back, e := real.FromInt(n); e != api.OK || !real.Same(back, x) {
			t.Errorf("FromInt(ToInt(%v)) = %v, %d", x, back, e)
		}
	}
	for _, n := range manyInts() {
		x, e := real.FromInt(n)
		if e != api.OK {
			if n >= -1<<53 && n <= 1<<53 {
				t.Errorf("FromInt(%d): %d", n, e)
			}
			continue
		}
		if back, e := real.ToInt(x); e != api.OK || back != n {
			t.Errorf("ToInt(FromInt(%d)) = %d, %d", n, back, e)
		}
	}
	if _, e := real.FromInt(1<<53 + 1); e != api.ErrLossy {
		t.Errorf("FromInt(2^53 + 1): %d", e)
	}
}

// TestTextThereAndBack: P1.7.
func TestTextThereAndBack(t *testing.T) {
	owners := map[string]uint64{}
	for _, b := range manyBits() {
		x := math.Float64frombits(b)
		s := real.Print(x)
		if back, e := real.Parse(s); e != api.OK || !real.Same(back, x) {
			t.Errorf("Parse(Print(x)) of the bits %016x: %q, %d", b, s, e)
		}
		if other, ok := owners[s]; ok && other != fixedBits(b) {
			t.Errorf("%q is the text of the bits %016x and %016x", s, other, b)
		}
		owners[s] = fixedBits(b)
	}
	for s := range owners {
		for _, near := range neighbours(s) {
			if x, e := real.Parse(near); e == api.OK && real.Print(x) != near {
				t.Errorf("Parse takes %q, whose float's text is %q", near, real.Print(x))
			}
		}
	}
}

// neighbours are texts that differ little from one.
func neighbours(s string) []string {
	return []string{
		s, "0" + s, "-" + s, "+" + s, "x" + s, s + "0", " " + s, s + " ",
		s[1:], s[:len(s)-1], strings.ToUpper(s), strings.Replace(s, "-", "-0", 1), strings.Replace(s, "x", "x0", 1),
	}
}

// FuzzParse: P1.4, P1.7: of whatever text.
func FuzzParse(f *testing.F) {
	for _, c := range texts {
		f.Add(c.s)
	}
	for _, s := range noTexts {
		f.Add(s)
	}
	f.Fuzz(func(t *testing.T, s string) {
		x, e := real.Parse(s)
		switch e {
		case api.OK:
			if real.Print(x) != s {
				t.Errorf("Parse takes %q, whose float's text is %q", s, real.Print(x))
			}
		case api.ErrText:
			if math.Float64bits(x) != 0 {
				t.Errorf("Parse(%q) answers %v beside ErrText", s, x)
			}
		default:
			t.Errorf("Parse(%q): %d", s, e)
		}
	})
}
