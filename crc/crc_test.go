package crc_test

import (
	"bytes"
	"hash/crc32"
	"testing"

	"gabion/crc"
)

// ways are the ways to the check of bytes; all of them must answer alike.
var ways = []struct {
	name string
	of   func([]byte) uint32
}{
	{"Sum", crc.Sum},
	{"Slow", crc.Slow},
	{"Update from 0", func(b []byte) uint32 { return crc.Update(0, b) }},
	{"Update byte by byte", byteByByte},
}

func byteByByte(b []byte) uint32 {
	sum := uint32(0)
	for i := range b {
		sum = crc.Update(sum, b[i:i+1])
	}
	return sum
}

// edgeSums are checks to go on from: none, all bits, one bit, the examples' ones.
var edgeSums = []uint32{
	0, 0xffffffff, 1, 0xfffffffe, 0x80000000, 0x7fffffff, 0xedb88320, 0x12477cdf,
	0xcbf43926, 0xd202ef8d, 0xff000000, 0x00ffffff, 0x0000ffff, 0xffff0000, 7, 15, 16, 255, 256,
}

// byWords is the check as P2.1 says it, the register as thirty-two bools, so that it shares no shift and no constant with what it is held against.
func byWords(sum uint32, b []byte) uint32 {
	var register [32]bool // the lowest bit first
	for i := range register {
		register[i] = sum>>i&1 == 0
	}
	for _, c := range b {
		for i := range 8 {
			register[i] = register[i] != (c>>i&1 == 1)
		}
		for range 8 {
			out := register[0]
			copy(register[:], register[1:])
			register[31] = false
			for _, i := range []int{5, 8, 9, 15, 19, 20, 21, 23, 24, 26, 27, 29, 30, 31} { // the set bits of edb88320
				register[i] = register[i] != out
			}
		}
	}
	var check uint32
	for i, set := range register {
		if !set {
			check |= 1 << i
		}
	}
	return check
}

// mixed is the n-th of a row of well mixed words, the same ones in every run.
func mixed(n uint64) uint64 {
	z := (n + 1) * 0x9e3779b97f4a7c15
	z = (z ^ z>>30) * 0xbf58476d1ce4e5b9
	z = (z ^ z>>27) * 0x94d049bb133111eb
	return z ^ z>>31
}

func mixedBytes(seed uint64, n int) []byte {
	b := make([]byte, n)
	for i := range b {
		b[i] = byte(mixed(seed<<20 + uint64(i)))
	}
	return b
}

// lists are lists of bytes: none, each byte alone, each pair of edge bytes, rows of one byte, mixed ones of many lengths.
func lists() [][]byte {
	l := [][]byte{nil, {}}
	for c := range 256 {
		l = append(l, []byte{byte(c)})
	}
	edges := []byte{0, 1, 0x0f, 0x10, 0x7f, 0x80, 0xf0, 0xfe, 0xff}
	for _, c := range edges {
		for _, d := range edges {
			l = append(l, []byte{c, d})
		}
		for n := 3; n <= 9; n++ {
			l = append(l, bytes.Repeat([]byte{c}, n))
		}
	}
	for n := range 70 {
		l = append(l, mixedBytes(uint64(n), n))
	}
	return append(l, mixedBytes(100, 2204), mixedBytes(101, 65536), make([]byte, 4096))
}

// TestExamples: the chapter's examples.
func TestExamples(t *testing.T) {
	for _, x := range []struct {
		b    string
		want uint32
	}{
		{"123456789", 0xcbf43926},
		{"", 0},
		{"\x00", 0xd202ef8d},
		{"\xff", 0xff000000},
	} {
		for _, w := range ways {
			if got := w.of([]byte(x.b)); got != x.want {
				t.Errorf("%s of %q = %x, want %x", w.name, x.b, got, x.want)
			}
		}
	}
	if got := crc.Sum(nil); got != 0 {
		t.Errorf("Sum(nil) = %x", got)
	}
	for _, b := range [][]byte{nil, {}} {
		if got := crc.Update(0xcbf43926, b); got != 0xcbf43926 {
			t.Errorf("Update(cbf43926, nothing) = %x", got)
		}
	}
	if got := crc.Update(crc.Sum([]byte("1234")), []byte("56789")); got != 0xcbf43926 {
		t.Errorf("Update(Sum(1234), 56789) = %x", got)
	}
}

// TestCheck: P2.1, and P2.2's Sum: each way answers what the promise's words and the library's own check answer.
func TestCheck(t *testing.T) {
	for _, b := range lists() {
		want := byWords(0, b)
		if other := crc32.ChecksumIEEE(b); other != want {
			t.Fatalf("of %d bytes: by the words %x, by the library %x", len(b), want, other)
		}
		for _, w := range ways {
			if got := w.of(b); got != want {
				t.Errorf("%s of %d bytes = %x, want %x (they begin %x)", w.name, len(b), got, want, b[:min(len(b), 9)])
			}
		}
	}
}

// TestUpdate: P2.2's Update, from the edges' sums, from such with one bit, and from mixed ones.
func TestUpdate(t *testing.T) {
	sums := append([]uint32(nil), edgeSums...)
	for i := range 32 {
		sums = append(sums, 1<<i, ^uint32(1<<i), uint32(mixed(uint64(i))))
	}
	for _, b := range lists() {
		if len(b) > 100 {
			continue
		}
		for _, sum := range sums {
			if got, want := crc.Update(sum, b), byWords(sum, b); got != want {
				t.Errorf("Update(%x, %x) = %x, want %x", sum, b, got, want)
			}
		}
	}
}

// TestUpdateNothing: P2.3: with nothing behind it each sum stays.
func TestUpdateNothing(t *testing.T) {
	for _, sum := range edgeSums {
		if got := crc.Update(sum, nil); got != sum {
			t.Errorf("Update(%x, nil) = %x", sum, got)
		}
		if got := crc.Update(sum, []byte{}); got != sum {
			t.Errorf("Update(%x, empty) = %x", sum, got)
		}
	}
}

// TestParts: P2.3: parts one behind the other, at each cut, an empty part first, last and in between.
func TestParts(t *testing.T) {
	for _, b := range lists() {
		if len(b) > 100 {
			continue
		}
		want := crc.Slow(b)
		for i := range len(b) + 1 {
			if got := crc.Update(crc.Sum(b[:i]), b[i:]); got != want {
				t.Errorf("%x in two parts at %d: %x, want %x", b, i, got, want)
			}
			for j := i; j <= len(b); j += 5 {
				if got := crc.Update(crc.Update(crc.Sum(b[:i]), b[i:j]), b[j:]); got != want {
					t.Errorf("%x in three parts at %d and %d: %x, want %x", b, i, j, got, want)
				}
			}
		}
	}
}

// TestXor: P2.4.
func TestXor(t *testing.T) {
	for n := range 80 {
		for k := range uint64(20) {
			a, b, c := mixedBytes(3*k, n), mixedBytes(3*k+1, n), mixedBytes(3*k+2, n)
			switch k {
			case 0:
				a = make([]byte, n)
			case 1:
				b = bytes.Repeat([]byte{0xff}, n)
			case 2:
				c = a
			}
			d := make([]byte, n)
			for i := range d {
				d[i] = a[i] ^ b[i] ^ c[i]
			}
			for _, w := range ways {
				if got, want := w.of(a)^w.of(b)^w.of(c), w.of(d); got != want {
					t.Errorf("%s, %d bytes: the xor of three is %x, that of their xor %x", w.name, n, got, want)
				}
			}
		}
	}
}

// burst is b with the bits of pattern turned, its lowest one at the bit `at`, counted from the lowest bit of the first byte on.
func burst(b []byte, at int, pattern uint32) []byte {
	d := append([]byte(nil), b...)
	for i := range 32 {
		if pattern>>i&1 == 1 {
			d[(at+i)/8] ^= 1 << ((at + i) % 8)
		}
	}
	return d
}

// patterns are bursts of just `width` bits: the first and the last one turned, those between none, all, or mixed.
func patterns(width int) []uint32 {
	ends := uint32(1) | 1<<(width-1)
	all := uint32(1<<width - 1)
	l := []uint32{ends, all}
	for k := range uint64(6) {
		l = append(l, ends|uint32(mixed(k*32+uint64(width)))&all)
	}
	return l
}

// TestBurst: P2.5, from the first bit of a list to its last one, of each width up to 32.
func TestBurst(t *testing.T) {
	for _, n := range []int{1, 2, 3, 4, 5, 6, 9, 17} {
		for _, b := range [][]byte{make([]byte, n), bytes.Repeat([]byte{0xff}, n), mixedBytes(uint64(n), n)} {
			for width := 1; width <= min(32, 8*n); width++ {
				for at := 0; at+width <= 8*n; at++ {
					for _, p := range patterns(width) {
						tellBurst(t, b, burst(b, at, p))
					}
				}
			}
		}
	}
}

// TestBurstOfDivisor: P2.5 at the bursts nearest to one that is not told: the divisor's 33 bits are not, 32 of them at either end are.
func TestBurstOfDivisor(t *testing.T) {
	const firstBits, lastBits = 0xdb710641, 0xedb88320 // the divisor without its last bit, and without its first one
	b := mixedBytes(7, 12)
	for at := 0; at+33 <= 8*len(b); at++ {
		whole := burst(burst(b, at+1, lastBits), at, 1)
		if crc.Sum(whole) != crc.Sum(b) || crc.Slow(whole) != crc.Slow(b) {
			t.Errorf("the divisor at %d is told: it is not that of the promise", at)
		}
		tellBurst(t, b, burst(b, at, firstBits))
		tellBurst(t, b, burst(b, at+1, lastBits))
	}
}

func tellBurst(t *testing.T, b, d []byte) {
	t.Helper()
	if bytes.Equal(b, d) {
		t.Fatalf("no burst at all: %x", b)
	}
	if crc.Sum(b) == crc.Sum(d) || crc.Slow(b) == crc.Slow(d) || crc.Update(9, b) == crc.Update(9, d) {
		t.Errorf("%x and %x have the same check", b, d)
	}
}

// TestArgumentStays: R4, R5: what is handed in stays, with the room behind it and ahead of it, and a second call answers the same.
func TestArgumentStays(t *testing.T) {
	room := mixedBytes(11, 300)
	before := append([]byte(nil), room...)
	b := room[40:200]
	for _, w := range ways {
		first := w.of(b)
		if !bytes.Equal(room, before) {
			t.Fatalf("%s changed what was handed in", w.name)
		}
		if again := w.of(b); again != first {
			t.Errorf("%s answers %x, then %x", w.name, first, again)
		}
		if exact := w.of(append([]byte(nil), b...)); exact != first {
			t.Errorf("%s hangs on the room: %x, %x", w.name, first, exact)
		}
	}
	crc.Update(0xffffffff, b)
	if !bytes.Equal(room, before) {
		t.Error("Update changed what was handed in")
	}
}

// FuzzCheck: all ways answer alike, whatever the bytes, the sum and the cut.
func FuzzCheck(f *testing.F) {
	f.Add(uint32(0), []byte("1234"), []byte("56789"))
	f.Add(uint32(0xffffffff), []byte{}, []byte{0})
	f.Fuzz(func(t *testing.T, sum uint32, a, b []byte) {
		both := append(append([]byte(nil), a...), b...)
		want := byWords(0, both)
		for _, w := range ways {
			if got := w.of(both); got != want {
				t.Errorf("%s = %x, want %x", w.name, got, want)
			}
		}
		if got := crc.Update(crc.Sum(a), b); got != want {
			t.Errorf("in two parts: %x, want %x", got, want)
		}
		if got, want := crc.Update(sum, both), byWords(sum, both); got != want {
			t.Errorf("Update(%x, ..) = %x, want %x", sum, got, want)
		}
	})
}
