package block_test

import (
	"bytes"
	"testing"

	"gabion/api"
	"gabion/block"
)

// again is n bytes that come again as far back as the base is long.
func again(base []byte, n int) []byte {
	return bytes.Repeat(base, 1+n/max(len(base), 1))[:n]
}

// unlike is n bytes in which no two, one behind the other, come again: each kind beside each greater one.
func unlike(n int) []byte {
	var b []byte
	for c := range 256 {
		b = append(b, byte(c))
		for d := c + 1; d < 256 && len(b) < n; d++ {
			b = append(b, byte(c), byte(d))
		}
	}
	return b[:n]
}

// shreds is n bytes of which pieces of so many come again, but no longer ones, each behind so many new ones.
func shreds(k uint64, n, size, fresh, from int) []byte {
	b := unlike(n)
	for at := from; at+size <= n; at += size + fresh {
		source := int(mixed(k*4096+uint64(at)) % uint64(from-size+1))
		copy(b[at:at+size], b[source:])
	}
	return b
}

// TestPackExamples: the chapter's examples.
func TestPackExamples(t *testing.T) {
	if p, e := block.Pack(mixedBytes(1, 2049, 256)); e != api.ErrLong || p != nil {
		t.Errorf("Pack of 2049 bytes: %d bytes, error %d, want ErrLong", len(p), e)
	}
	if p := samePack(t, row(0x61, 2048)); len(p) > 80 {
		t.Errorf("Pack of 2048 bytes 61 has %d bytes", len(p))
	}
}

// TestPackLengths: P10.1, P10.2, P10.4: each length up to MaxBlock, of bytes of one kind, of few kinds, of all; above it ErrLong, whatever the bytes.
func TestPackLengths(t *testing.T) {
	for n := range 2049 {
		samePack(t, row(0x61, n))
		samePack(t, mixedBytes(uint64(n), n, []int{3, 256}[n%2]))
	}
	for _, n := range []int{2049, 2050, 4096, 65536} {
		for _, b := range [][]byte{make([]byte, n), row(0x61, n), mixedBytes(3, n, 256)} {
			if p, e := block.Pack(b); e != api.ErrLong || p != nil {
				t.Errorf("Pack of %d bytes: %d bytes, error %d, want ErrLong", n, len(p), e)
			}
		}
	}
}

// TestPackNothing: P10.1, R3: no bytes, as nil and as an empty list, are one byte, of which Unpack makes none.
func TestPackNothing(t *testing.T) {
	for _, b := range [][]byte{nil, {}, make([]byte, 0, 9)} {
		if p := samePack(t, b); len(p) != 1 {
			t.Errorf("Pack of nothing = %x", p)
		}
	}
}

// TestPackSmall: P10.1, P10.4: each byte alone, and all lists of up to 9 bytes of three kinds.
func TestPackSmall(t *testing.T) {
	for c := range 256 {
		if p := samePack(t, []byte{byte(c)}); !bytes.Equal(p, []byte{0, byte(c)}) {
			t.Errorf("Pack(%02x) = %x, and only 00 %02x is short enough", c, p, c)
		}
	}
	var grow func(b []byte)
	grow = func(b []byte) {
		samePack(t, b)
		if len(b) == 9 {
			return
		}
		for c := range 3 {
			grow(append(b[:len(b):len(b)], byte(c)))
		}
	}
	grow(nil)
}

// TestNothingComesAgain: P10.1: bytes without a match are raw, as tokens would be two longer, and one longer is the most.
func TestNothingComesAgain(t *testing.T) {
	pairs := map[[2]byte]int{}
	for i, b := 0, unlike(2048); i+1 < len(b); i++ {
		pairs[[2]byte{b[i], b[i+1]}]++
	}
	if len(pairs) != 2047 {
		t.Fatalf("%d pairs of bytes, want 2047", len(pairs))
	}
	for n := 1; n <= 2048; n++ {
		b := unlike(n)
		if p := samePack(t, b); !bytes.Equal(p, join([]byte{0}, b)) {
			t.Errorf("Pack of %d bytes in which nothing comes again has %d", n, len(p))
		}
	}
}

// periods are how far back bytes come again: small ones, about MinMatch and MaxMatch, about where a number takes a byte more, about Window.
func periods() []int {
	return []int{1, 2, 3, 4, 5, 6, 7, 8, 9, 31, 32, 33, 63, 64, 65, 126, 127, 128, 129, 253, 254, 255, 256, 257, 510, 511, 512, 700, 1000, 1022, 1023, 1024, 1025, 1026}
}

// bases are p bytes each: in which nothing comes again, of one kind but the last, of few kinds, and such in which pieces just too short, or short and far back, come again.
func bases(p int) [][]byte {
	l := [][]byte{unlike(p), append(row(0x61, p-1), 0x62), append([]byte{0x62}, row(0x61, p-1)...)}
	for k, kinds := range []int{2, 3, 5, 16, 256} {
		l = append(l, mixedBytes(uint64(k), p, kinds))
	}
	for _, size := range []int{3, 4, 5, 6, 64} {
		for _, fresh := range []int{0, 1, 2, 63, 64} {
			for _, from := range []int{size, 140, 400} {
				if from+size <= p {
					l = append(l, shreds(uint64(p), p, size, fresh, from))
				}
			}
		}
	}
	return l
}

// TestComesAgain: P10.2: bytes that come again p back are short, whatever the first p are, whatever their number is.
func TestComesAgain(t *testing.T) {
	for _, p := range periods() {
		for k, base := range bases(p) {
			w := int(mixed(uint64(p*1000+k)) % 2049)
			for _, n := range []int{p, p + 1, p + 3, p + 4, 2*p - 1, 2 * p, p + 255, p + 256, w, 2048} {
				if n <= 2048 {
					samePack(t, again(base, n))
				}
			}
		}
	}
}

// TestWindow: P10.2, P10.3: what stands 1024 back is found, what stands further back is not told by that.
func TestWindow(t *testing.T) {
	for _, gap := range []int{1020, 1021, 1022, 1023, 1024, 1025, 1026, 1027, 1028} {
		for _, size := range []int{4, 5, 100, 255, 256, 500, 1000} {
			b := again(unlike(gap), gap+size)
			p := samePack(t, b)
			if gap <= 1024 && size >= 100 && len(p) > gap+30 {
				t.Errorf("%d bytes from %d back: %d packed", size, gap, len(p))
			}
			if gap > 1024 && !bytes.Equal(p, join([]byte{0}, b)) {
				t.Errorf("%d bytes from %d back: %d packed, as nothing comes again within Window", size, gap, len(p))
			}
		}
	}
}

// TestPackMixed: P10.1, P10.2, P10.4: bytes out of pieces that stood already, near and far, and new ones.
func TestPackMixed(t *testing.T) {
	shorter := 0
	for k := range uint64(3000) {
		n := int(mixed(k) % 2049)
		var b []byte
		for i := uint64(0); len(b) < n; i++ {
			w := mixed(k<<16 + i)
			size := []int{1 + int(w>>8%5), 1 + int(w>>8%40), 1 + int(w>>8%400)}[w%3]
			if w>>4%3 > 0 && len(b) > 0 {
				from := len(b) - 1 - int(w>>32%uint64(min(len(b), []int{4, 130, 1100, 2048}[w>>6%4])))
				b = append(b, again(b[from:], size)...)
			} else {
				b = append(b, mixedBytes(k<<8+i, size, []int{1, 2, 4, 256}[w>>20%4])...)
			}
		}
		if p := samePack(t, b[:n]); len(p) < n {
			shorter++
		}
	}
	if shorter < 2000 {
		t.Errorf("only %d became shorter", shorter)
	}
}

// TestPackAgain: P10.4: packed bytes, packed, are what they were; so are raw bytes and tokens that are no packed bytes.
func TestPackAgain(t *testing.T) {
	for k := range uint64(300) {
		b := mixedBytes(k, int(mixed(k)%2000), 3)
		for range 3 {
			b = samePack(t, b)
		}
		if p := mixedTokens(k); len(p) <= 2048 {
			samePack(t, p)
		}
	}
}

// FuzzPack: whatever bytes, packed, are short enough and come back.
func FuzzPack(f *testing.F) {
	f.Add([]byte{})
	f.Add([]byte("abcabcabcabcabc"))
	f.Add(row(7, 2048))
	f.Add(again(unlike(1024), 2048))
	f.Add(shreds(1, 600, 4, 1, 140))
	f.Fuzz(func(t *testing.T, b []byte) {
		if len(b) > 2048 {
			if p, e := block.Pack(b); e != api.ErrLong || p != nil {
				t.Errorf("Pack of %d bytes: error %d", len(b), e)
			}
			return
		}
		samePack(t, b)
		if len(b) > 0 {
			samePack(t, again(b, 2048))
			samePack(t, again(b, 1+2*len(b)%2048))
		}
	})
}

// FuzzUnpack: whatever bytes are unpacked as the words say.
func FuzzUnpack(f *testing.F) {
	f.Add([]byte{})
	f.Add([]byte{0, 1, 2})
	f.Add(made(literals(1, 2), matched(4, 2), literals(3), matched(255, 7)))
	f.Add(made(literals(row(7, 2040)...), matched(8, 1024)))
	f.Add(made([]byte{0x82, 0x20}))
	f.Fuzz(func(t *testing.T, p []byte) {
		if len(p) > 8192 {
			return
		}
		sameUnpack(t, p)
		sameUnpack(t, join([]byte{1}, p))
	})
}
