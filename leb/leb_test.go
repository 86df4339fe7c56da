package leb_test

import (
	"bytes"
	"cmp"
	"encoding/binary"
	"math"
	"math/big"
	"slices"
	"testing"

	"gabion/api"
	"gabion/leb"
)

// mixed is the n-th of a row of well mixed words, the same ones in every run.
func mixed(n uint64) uint64 {
	z := (n + 1) * 0x9e3779b97f4a7c15
	z = (z ^ z>>30) * 0xbf58476d1ce4e5b9
	z = (z ^ z>>27) * 0x94d049bb133111eb
	return z ^ z>>31
}

// wordBytes is P3.1 by the words, on numbers of any length: the rests of divisions by 128.
func wordBytes(n uint64) []byte {
	left, base, rest := new(big.Int).SetUint64(n), big.NewInt(128), new(big.Int)
	var b []byte
	for {
		left.QuoRem(left, base, rest)
		if left.Sign() == 0 {
			return append(b, byte(rest.Int64()))
		}
		b = append(b, byte(rest.Int64())+128)
	}
}

// wordGet is P3.2 by the words, each of them asked by itself, on numbers of any length.
func wordGet(b []byte, at int) (uint64, int, api.Errno) {
	if at < 0 || at >= len(b) {
		return 0, 0, api.ErrShort
	}
	rest := b[at:]
	if len(rest) > 10 {
		rest = rest[:10]
	}
	ends := slices.IndexFunc(rest, func(c byte) bool { return c < 128 })
	switch {
	case ends < 0 && len(rest) < 10:
		return 0, 0, api.ErrShort
	case ends < 0:
		return 0, 0, api.ErrForm
	case ends == 9 && rest[9] > 1:
		return 0, 0, api.ErrForm
	case ends > 0 && rest[ends] == 0:
		return 0, 0, api.ErrForm
	}
	sum := new(big.Int)
	for i := ends; i >= 0; i-- {
		sum.Mul(sum, big.NewInt(128))
		sum.Add(sum, big.NewInt(int64(rest[i]%128)))
	}
	return sum.Uint64(), at + ends + 1, api.OK
}

// leasts has the least number of each count of bytes.
func leasts() map[int]uint64 {
	return map[int]uint64{
		1: 0, 2: 128, 3: 16384, 4: 2097152, 5: 268435456, 6: 34359738368,
		7: 4398046511104, 8: 562949953421312, 9: 72057594037927936, 10: 9223372036854775808,
	}
}

// greatest is the greatest number of so many bytes.
func greatest(size int) uint64 {
	if size == 10 {
		return math.MaxUint64
	}
	return leasts()[size+1] - 1
}

// numbers are 0, the edges of each count of bytes and what stands about them, each bit alone and all below it, small ones, and mixed ones of each length.
func numbers() []uint64 {
	var l []uint64
	for size, least := range leasts() {
		l = append(l, least, least+1, least-1, greatest(size), greatest(size)-1)
	}
	for i := range 64 {
		l = append(l, 1<<i, 1<<i-1, 1<<i+1, ^uint64(1<<i))
		for k := range uint64(30) {
			l = append(l, mixed(uint64(i)*30+k)>>i)
		}
	}
	for n := range uint64(1000) {
		l = append(l, n, 16384-500+n, math.MaxUint64-n)
	}
	return l
}

// signed are the edges of numbers with a sign, those about 0, and mixed ones of each length and both signs.
func signed() []int64 {
	l := []int64{0, -1, 1, -64, 63, -65, 64, -8192, 8191, -8193, 8192, math.MinInt64, math.MinInt64 + 1, math.MaxInt64, math.MaxInt64 - 1}
	for n := int64(-300); n <= 300; n++ {
		l = append(l, n)
	}
	for _, u := range numbers() {
		l = append(l, int64(u), -int64(u))
	}
	return l
}

// TestExamples: the chapter's examples.
func TestExamples(t *testing.T) {
	nineFF := bytes.Repeat([]byte{0xff}, 9)
	for _, x := range []struct {
		n    uint64
		want []byte
	}{
		{0, []byte{0}}, {127, []byte{0x7f}}, {128, []byte{0x80, 1}}, {300, []byte{0xac, 2}},
		{math.MaxUint64, append(append([]byte(nil), nineFF...), 1)},
	} {
		if got := leb.Put(x.n); !bytes.Equal(got, x.want) {
			t.Errorf("Put(%d) = %x, want %x", x.n, got, x.want)
		}
	}
	if got := leb.Len(math.MaxUint64); got != 10 {
		t.Errorf("Len(2^64 - 1) = %d", got)
	}
	for _, x := range []struct {
		b      []byte
		at     int
		n      uint64
		behind int
		e      api.Errno
	}{
		{[]byte{0xac, 2, 7}, 0, 300, 2, api.OK},
		{[]byte{0xac, 2, 7}, 2, 7, 3, api.OK},
		{[]byte{0x80}, 0, 0, 0, api.ErrShort},
		{[]byte{}, 0, 0, 0, api.ErrShort},
		{[]byte{7}, 1, 0, 0, api.ErrShort},
		{[]byte{7}, -1, 0, 0, api.ErrShort},
		{[]byte{0x80, 0}, 0, 0, 0, api.ErrForm},
		{append(append([]byte(nil), nineFF...), 2), 0, 0, 0, api.ErrForm},
		{bytes.Repeat([]byte{0x80}, 10), 0, 0, 0, api.ErrForm},
	} {
		if n, behind, e := leb.Get(x.b, x.at); n != x.n || behind != x.behind || e != x.e {
			t.Errorf("Get(%x, %d) = %d, %d, %d, want %d, %d, %d", x.b, x.at, n, behind, e, x.n, x.behind, x.e)
		}
	}
	for n, u := range map[int64]uint64{0: 0, -1: 1, 1: 2, math.MinInt64: math.MaxUint64} {
		if got := leb.Zig(n); got != u {
			t.Errorf("Zig(%d) = %d, want %d", n, got, u)
		}
	}
	if got := leb.Zag(math.MaxUint64); got != math.MinInt64 {
		t.Errorf("Zag(2^64 - 1) = %d", got)
	}
}

// TestPut: P3.1: the bytes are those of the words, and of the library.
func TestPut(t *testing.T) {
	for _, n := range numbers() {
		want := wordBytes(n)
		if other := binary.AppendUvarint(nil, n); !bytes.Equal(other, want) {
			t.Fatalf("of %d: by the words %x, by the library %x", n, want, other)
		}
		if got := leb.Put(n); !bytes.Equal(got, want) {
			t.Errorf("Put(%d) = %x, want %x", n, got, want)
		}
		if got := leb.Len(n); got != len(want) {
			t.Errorf("Len(%d) = %d, want %d", n, got, len(want))
		}
	}
}

// TestCounts: P3.1: the least and the greatest number of each count of bytes have just that count.
func TestCounts(t *testing.T) {
	for size, least := range leasts() {
		for _, n := range []uint64{least, greatest(size)} {
			if got := leb.Len(n); got != size {
				t.Errorf("Len(%d) = %d, want %d", n, got, size)
			}
			if got := leb.Put(n); len(got) != size {
				t.Errorf("Put(%d) = %x, want %d bytes", n, got, size)
			}
		}
	}
}

// TestPutIsTheCallers: R4, R5: who writes into an answer, or into the room behind it, changes no other one.
func TestPutIsTheCallers(t *testing.T) {
	for _, n := range numbers() {
		want := wordBytes(n)
		first, second := leb.Put(n), leb.Put(n)
		room := first[:cap(first)]
		for i := range room {
			room[i] = 0x55
		}
		if !bytes.Equal(second, want) {
			t.Fatalf("Put(%d) shares memory with another answer", n)
		}
		if third := leb.Put(n); !bytes.Equal(third, want) {
			t.Fatalf("Put(%d) = %x behind a change of what it had told", n, third)
		}
	}
}

func sameGet(t *testing.T, b []byte, at int) {
	t.Helper()
	n, behind, e := leb.Get(b, at)
	wantN, wantBehind, wantE := wordGet(b, at)
	if n != wantN || behind != wantBehind || e != wantE {
		t.Errorf("Get(%x, %d) = %d, %d, %d, want %d, %d, %d", b, at, n, behind, e, wantN, wantBehind, wantE)
	}
}

// TestGetAll: P3.2 at all bytes and pairs of bytes, at each place in and about them.
func TestGetAll(t *testing.T) {
	for c := range 256 {
		for d := range 256 {
			b := []byte{byte(c), byte(d)}
			for at := -1; at <= 3; at++ {
				sameGet(t, b, at)
			}
			sameGet(t, b[:1], 0)
		}
	}
}

// TestGetLong: P3.2 at rows of 0 to 12 bytes of 128 or above, and each byte behind them, and bytes behind that.
func TestGetLong(t *testing.T) {
	for _, fill := range []byte{0x80, 0x81, 0xaa, 0xfe, 0xff} {
		for size := range 13 {
			high := bytes.Repeat([]byte{fill}, size)
			for at := -2; at <= size+2; at++ {
				sameGet(t, high, at)
			}
			for c := range 256 {
				b := append(append([]byte(nil), high...), byte(c))
				for at := range size + 2 {
					sameGet(t, b, at)
				}
				for _, d := range []byte{0, 1, 2, 0x7f, 0x80, 0xff} {
					sameGet(t, append(b, d), 0)
				}
			}
		}
	}
}

// TestGetErrors: P3.2's errors at the named edges, told by hand.
func TestGetErrors(t *testing.T) {
	row := func(c byte, n int, behind ...byte) []byte { return append(bytes.Repeat([]byte{c}, n), behind...) }
	for _, x := range []struct {
		name string
		b    []byte
		at   int
		e    api.Errno
	}{
		{"nothing", nil, 0, api.ErrShort},
		{"nothing, below 0", nil, -1, api.ErrShort},
		{"nothing, behind it", nil, 1, api.ErrShort},
		{"below 0", row(1, 5), -1, api.ErrShort},
		{"far below 0", row(1, 5), math.MinInt, api.ErrShort},
		{"at the end", row(1, 5), 5, api.ErrShort},
		{"behind the end", row(1, 5), 6, api.ErrShort},
		{"far behind the end", row(1, 5), math.MaxInt, api.ErrShort},
		{"nine bytes of 128", row(0x80, 9), 0, api.ErrShort},
		{"nine bytes of 255", row(0xff, 9), 0, api.ErrShort},
		{"the last nine of ten", row(0xff, 10), 1, api.ErrShort},
		{"ten bytes of 128", row(0x80, 10), 0, api.ErrForm},
		{"ten bytes of 255", row(0xff, 10), 0, api.ErrForm},
		{"ten of 128 and an end", row(0x80, 10, 1), 0, api.ErrForm},
		{"a tenth byte of 129", row(0x80, 9, 0x81), 0, api.ErrForm},
		{"a tenth byte of 2", row(0xff, 9, 2), 0, api.ErrForm},
		{"a tenth byte of 127", row(0x80, 9, 127), 0, api.ErrForm},
		{"a tenth byte of 0", row(0xff, 9, 0), 0, api.ErrForm},
		{"a second byte of 0", row(0xff, 1, 0), 0, api.ErrForm},
		{"a ninth byte of 0", row(0xff, 8, 0), 0, api.ErrForm},
		{"a 0 that is the last one, further on", []byte{7, 0x81, 0}, 1, api.ErrForm},
	} {
		if n, behind, e := leb.Get(x.b, x.at); n != 0 || behind != 0 || e != x.e {
			t.Errorf("%s: Get(%x, %d) = %d, %d, %d, want error %d", x.name, x.b, x.at, n, behind, e, x.e)
		}
	}
	for _, x := range []struct {
		b []byte
		n uint64
	}{{row(0x80, 9, 1), 1 << 63}, {row(0xff, 9, 1), math.MaxUint64}, {row(0xff, 8, 0x7f), 1<<63 - 1}, {[]byte{0}, 0}, {[]byte{0, 0}, 0}} {
		if n, behind, e := leb.Get(x.b, 0); n != x.n || e != api.OK || behind != leb.Len(x.n) {
			t.Errorf("Get(%x, 0) = %d, %d, %d, want %d", x.b, n, behind, e, x.n)
		}
	}
}

// TestRoom: P3.2, R5: bytes that stand behind the list, in its spare room, are not read.
func TestRoom(t *testing.T) {
	room := append(bytes.Repeat([]byte{0x80}, 5), bytes.Repeat([]byte{1}, 10)...)
	for size := range 6 {
		if n, behind, e := leb.Get(room[:size], 0); n != 0 || behind != 0 || e != api.ErrShort {
			t.Errorf("Get of %d bytes = %d, %d, %d", size, n, behind, e)
		}
	}
}

// TestThereAndBack: P3.4: a number's bytes are found at any place, whatever stands ahead of them and behind.
func TestThereAndBack(t *testing.T) {
	arounds := [][]byte{nil, {0}, {1}, {0x80}, {0xff, 0xff}, bytes.Repeat([]byte{0x80}, 11), bytes.Repeat([]byte{0}, 9)}
	for _, n := range numbers() {
		for i, ahead := range arounds {
			behind := arounds[(i*3+1)%len(arounds)]
			b := append(append(append([]byte(nil), ahead...), leb.Put(n)...), behind...)
			got, place, e := leb.Get(b, len(ahead))
			if got != n || place != len(ahead)+leb.Len(n) || e != api.OK {
				t.Errorf("Get(%x, %d) = %d, %d, %d, want %d", b, len(ahead), got, place, e, n)
			}
		}
	}
}

// TestBackAndThere: P3.4: what Get tells, put, is what it read: of all pairs of bytes, and of mixed ones, most of them 128 or above.
func TestBackAndThere(t *testing.T) {
	again := func(b []byte, at int) {
		n, behind, e := leb.Get(b, at)
		if e != api.OK {
			return
		}
		if behind <= at || behind > len(b) || !bytes.Equal(leb.Put(n), b[at:behind]) {
			t.Errorf("Get(%x, %d) = %d, %d, and that put is %x", b, at, n, behind, leb.Put(n))
		}
	}
	for c := range 256 {
		for d := range 256 {
			again([]byte{byte(c), byte(d)}, 0)
		}
	}
	for k := range uint64(20000) {
		b := make([]byte, 14)
		for i := range b {
			w := mixed(k*14 + uint64(i))
			b[i] = byte(w)
			if w>>8%8 != 0 {
				b[i] |= 0x80
			}
		}
		for at := range b {
			again(b, at)
			sameGet(t, b, at)
		}
	}
}

// TestNoBeginning: P3.4: of unlike numbers neither's bytes begin the other's.
func TestNoBeginning(t *testing.T) {
	var some []uint64
	for size, least := range leasts() {
		some = append(some, least, least+1, greatest(size), greatest(size)-1)
	}
	for n := range uint64(300) {
		some = append(some, n, mixed(n)>>(n%64))
	}
	for _, n := range some {
		for _, m := range some {
			if n != m && bytes.HasPrefix(leb.Put(n), leb.Put(m)) {
				t.Errorf("Put(%d) = %x begins with Put(%d) = %x", n, leb.Put(n), m, leb.Put(m))
			}
		}
	}
}

// wordZig is P3.3 by the words, on numbers of any length.
func wordZig(n int64) uint64 {
	double := new(big.Int).Mul(big.NewInt(n), big.NewInt(2))
	if n >= 0 {
		return double.Uint64()
	}
	double.Neg(double)
	return double.Sub(double, big.NewInt(1)).Uint64()
}

// TestZig: P3.3, P3.5: Zig is that of the words, and Zag goes back.
func TestZig(t *testing.T) {
	for _, n := range signed() {
		u := leb.Zig(n)
		if want := wordZig(n); u != want {
			t.Errorf("Zig(%d) = %d, want %d", n, u, want)
		}
		if back := leb.Zag(u); back != n {
			t.Errorf("Zag(Zig(%d)) = %d", n, back)
		}
	}
}

// TestZag: P3.3, P3.5: Zag is the number whose Zig that is.
func TestZag(t *testing.T) {
	for _, u := range numbers() {
		n := leb.Zag(u)
		if wordZig(n) != u || leb.Zig(n) != u {
			t.Errorf("Zag(%d) = %d, whose Zig is %d", u, n, wordZig(n))
		}
	}
	for u, n := range map[uint64]int64{0: 0, 1: -1, 2: 1, 3: -2, 127: -64, 126: 63, 128: 64, 129: -65, math.MaxUint64 - 1: math.MaxInt64} {
		if got := leb.Zag(u); got != n {
			t.Errorf("Zag(%d) = %d, want %d", u, got, n)
		}
	}
}

// TestNearZero: P3.5: one byte from -64 to 63, two just beyond, and never more bytes nearer to 0.
func TestNearZero(t *testing.T) {
	for n := int64(-8192); n <= 8191; n++ {
		want := 2
		if n >= -64 && n <= 63 {
			want = 1
		}
		if got := leb.Len(leb.Zig(n)); got != want {
			t.Errorf("Len(Zig(%d)) = %d, want %d", n, got, want)
		}
	}
	size := func(n int64) int { return leb.Len(leb.Zig(n)) }
	for _, n := range []int64{-65, 64, -8193, 8192, math.MinInt64, math.MaxInt64} {
		if size(n) < 2 {
			t.Errorf("Len(Zig(%d)) = %d", n, size(n))
		}
	}
	for _, n := range signed() {
		for _, nearer := range []int64{n / 2, n / 3, n / 128, -(n / 2), -(n / 128), n - int64(cmp.Compare(n, 0))} {
			if size(nearer) > size(n) {
				t.Errorf("%d has %d bytes, %d has %d", nearer, size(nearer), n, size(n))
			}
		}
	}
}

// TestArgumentStays: R4, R5: what Get is handed stays, with the room about it, and a second call answers the same.
func TestArgumentStays(t *testing.T) {
	room := make([]byte, 60)
	for i := range room {
		room[i] = byte(mixed(uint64(i))) | 0x80*byte(i%3&1)
	}
	before := append([]byte(nil), room...)
	b := room[10:40]
	for at := -1; at <= len(b)+1; at++ {
		n, behind, e := leb.Get(b, at)
		if !bytes.Equal(room, before) {
			t.Fatalf("Get(.., %d) changed what was handed in", at)
		}
		if n2, behind2, e2 := leb.Get(append([]byte(nil), b...), at); n2 != n || behind2 != behind || e2 != e {
			t.Errorf("Get(.., %d) = %d, %d, %d, then %d, %d, %d", at, n, behind, e, n2, behind2, e2)
		}
	}
}

// FuzzGet: Get of any bytes at any place is that of the words; what it tells, put, is what it read.
func FuzzGet(f *testing.F) {
	f.Add([]byte{0xac, 2, 7}, 0)
	f.Add(bytes.Repeat([]byte{0x80}, 10), 0)
	f.Add([]byte{0x80, 0}, 1)
	f.Fuzz(func(t *testing.T, b []byte, at int) {
		sameGet(t, b, at)
		if n, behind, e := leb.Get(b, at); e == api.OK && !bytes.Equal(leb.Put(n), b[at:behind]) {
			t.Errorf("Get(%x, %d) = %d, %d", b, at, n, behind)
		}
	})
}
