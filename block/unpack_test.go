package block_test

import (
	"bytes"
	"math"
	"testing"

	"gabion/api"
	"gabion/block"
)

// TestUnpackExamples: the chapter's examples.
func TestUnpackExamples(t *testing.T) {
	for _, x := range []struct{ p, b []byte }{
		{[]byte{0, 0x11, 0x22}, []byte{0x11, 0x22}},
		{[]byte{1, 4, 0x11, 0x22}, []byte{0x11, 0x22}},
		{[]byte{1}, nil},
		{[]byte{0}, nil},
		{[]byte{1, 2, 0x61, 0x0b, 1}, []byte("aaaaaa")},
		{[]byte{1, 4, 0x61, 0x62, 9, 2}, []byte("ababab")},
	} {
		if b, e := block.Unpack(x.p); e != api.OK || !bytes.Equal(b, x.b) {
			t.Errorf("Unpack(%x) = %x, %d, want %x", x.p, b, e, x.b)
		}
	}
	for _, x := range []struct {
		p []byte
		e api.Errno
	}{
		{nil, api.ErrEmpty},
		{[]byte{2}, api.ErrForm},
		{[]byte{1, 0}, api.ErrForm},
		{[]byte{1, 2}, api.ErrShort},
		{[]byte{1, 2, 0x61, 7, 1}, api.ErrForm},
		{[]byte{1, 2, 0x61, 9}, api.ErrShort},
		{[]byte{1, 2, 0x61, 9, 2}, api.ErrForm},
		{[]byte{1, 2, 0x61, 9, 0}, api.ErrForm},
	} {
		if b, e := block.Unpack(x.p); e != x.e || b != nil {
			t.Errorf("Unpack(%x) = %x, %d, want error %d", x.p, b, e, x.e)
		}
	}
}

// TestFirstByte: P10.3: of 256 first bytes just two are taken; of the others what follows does not count.
func TestFirstByte(t *testing.T) {
	for c := range 256 {
		for _, rest := range [][]byte{nil, {2, 0x61}, {2}, {0}, {9, 1}, row(7, 2048), row(7, 2049), row(7, 4000)} {
			p := join([]byte{byte(c)}, rest)
			sameUnpack(t, p)
			if _, e := block.Unpack(p); c > 1 && e != api.ErrForm {
				t.Errorf("Unpack(%02x and %d bytes): error %d", c, len(rest), e)
			}
		}
	}
	if b, e := block.Unpack([]byte{}); e != api.ErrEmpty || b != nil {
		t.Errorf("Unpack of an empty list: %x, %d", b, e)
	}
}

// TestRaw: P10.3: raw bytes of each length up to MaxBlock are told as they are, of more refused, whatever they look like.
func TestRaw(t *testing.T) {
	for n := range 2048 + 20 {
		b := mixedBytes(uint64(n), n, 256)
		got, e := block.Unpack(join([]byte{0}, b))
		switch {
		case n <= 2048 && (e != api.OK || !bytes.Equal(got, b)):
			t.Errorf("Unpack of %d raw bytes: error %d, %d bytes", n, e, len(got))
		case n > 2048 && (e != api.ErrLong || got != nil):
			t.Errorf("Unpack of %d raw bytes: error %d, %d bytes, want ErrLong", n, e, len(got))
		}
	}
	for _, p := range [][]byte{{0, 0}, {0, 1}, {0, 0x80}, {0, 1, 0}, {0, 9, 0}} {
		if b, e := block.Unpack(p); e != api.OK || !bytes.Equal(b, p[1:]) {
			t.Errorf("Unpack(%x) = %x, %d", p, b, e)
		}
	}
}

// TestLiterals: P10.3: literals of 0 bytes, of as many as are left, of one more, of MaxBlock and of one more.
func TestLiterals(t *testing.T) {
	for n := 1; n <= 2048+3; n++ {
		b := mixedBytes(uint64(n), n, 256)
		whole := made(literals(b...))
		got, e := block.Unpack(whole)
		short, shortE := block.Unpack(whole[:len(whole)-1])
		if n > 2048 {
			if e != api.ErrLong || got != nil || shortE != api.ErrLong || short != nil {
				t.Errorf("%d literals: errors %d, %d, want ErrLong", n, e, shortE)
			}
			continue
		}
		if e != api.OK || !bytes.Equal(got, b) {
			t.Errorf("%d literals: error %d, %d bytes", n, e, len(got))
		}
		if shortE != api.ErrShort || short != nil {
			t.Errorf("%d literals, one less left: error %d, want ErrShort", n, shortE)
		}
	}
	for _, ahead := range [][]byte{nil, literals(1), literals(1, 2, 3, 4), join(literals(1), matched(255, 1))} {
		if b, e := block.Unpack(made(ahead, []byte{0})); e != api.ErrForm || b != nil {
			t.Errorf("no literals behind %x: error %d", ahead, e)
		}
	}
}

// TestLiteralsOfTwo: P10.3: the limit counts all bytes that there would be, not one token's.
func TestLiteralsOfTwo(t *testing.T) {
	for _, n := range []int{1, 2, 63, 64, 1000, 1024, 2047} {
		first, second := mixedBytes(1, n, 256), mixedBytes(2, 2048-n, 256)
		if b, e := block.Unpack(made(literals(first...), literals(second...))); e != api.OK || !bytes.Equal(b, join(first, second)) {
			t.Errorf("%d literals and the rest: error %d, %d bytes", n, e, len(b))
		}
		if b, e := block.Unpack(made(literals(first...), literals(append(second, 7)...))); e != api.ErrLong || b != nil {
			t.Errorf("%d literals and one more than the rest: error %d, want ErrLong", n, e)
		}
	}
	full := literals(mixedBytes(3, 2048, 256)...)
	for _, x := range []struct {
		behind []byte
		e      api.Errno
	}{
		{nil, api.OK}, {literals(1), api.ErrLong}, {[]byte{2}, api.ErrLong}, {[]byte{0}, api.ErrForm},
		{matched(4, 1), api.ErrLong}, {matched(4, 1024), api.ErrLong}, {matched(4, 1025), api.ErrForm},
		{matched(3, 1), api.ErrForm}, {[]byte{9}, api.ErrShort}, {[]byte{0x80}, api.ErrShort}, {[]byte{0x82, 0}, api.ErrForm},
	} {
		if _, e := block.Unpack(made(full, x.behind)); e != x.e {
			t.Errorf("%x behind 2048 bytes: error %d, want %d", x.behind, e, x.e)
		}
	}
}

// TestMatchSizes: P10.3: matches of 4 to 255 bytes, of fewer and of more, up to the greatest number.
func TestMatchSizes(t *testing.T) {
	ahead := mixedBytes(5, 300, 256)
	for size := range uint64(600) {
		p := made(literals(ahead...), matched(size, 300))
		b, e := block.Unpack(p)
		switch taken := size >= 4 && size <= 255; {
		case taken && (e != api.OK || !bytes.Equal(b, join(ahead, ahead[:size]))):
			t.Errorf("a match of %d bytes: error %d, %d bytes", size, e, len(b))
		case !taken && (e != api.ErrForm || b != nil):
			t.Errorf("a match of %d bytes: error %d, want ErrForm", size, e)
		}
	}
	for _, size := range []uint64{1 << 8, 1<<8 + 4, 1 << 16, 1<<16 + 4, 1 << 32, 1<<32 + 4, 1<<62 + 4, math.MaxUint64 / 2} {
		if b, e := block.Unpack(made(literals(ahead...), matched(size, 1))); e != api.ErrForm || b != nil {
			t.Errorf("a match of %d bytes: error %d, want ErrForm", size, e)
		}
	}
}

// TestMatchBacks: P10.3: a second number of 0, of 1, of as many bytes as there are, of one more, of 1024 and 1025, with each number of bytes ahead.
func TestMatchBacks(t *testing.T) {
	for _, there := range []int{0, 1, 2, 3, 4, 5, 127, 128, 129, 254, 255, 256, 1000, 1023, 1024, 1025, 1026, 1793, 2000, 2044} {
		ahead := mixedBytes(uint64(there), there, 256)
		tokens := [][]byte{literals(ahead...), nil}
		if there == 0 {
			tokens[0] = nil
		}
		for back := range uint64(1200) {
			tokens[1] = matched(4, back)
			b, e := block.Unpack(made(tokens...))
			if back == 0 || back > 1024 || back > uint64(there) {
				if e != api.ErrForm || b != nil {
					t.Fatalf("%d back of %d: error %d, want ErrForm", back, there, e)
				}
				continue
			}
			from := there - int(back)
			want := append([]byte(nil), ahead...)
			for i := range 4 {
				want = append(want, want[from+i])
			}
			if e != api.OK || !bytes.Equal(b, want) {
				t.Fatalf("%d back of %d: error %d, %x", back, there, e, b[min(len(b), there):])
			}
		}
		for _, back := range []uint64{1 << 16, 1<<16 + 1, 1 << 32, 1<<32 + 1, 1 << 63, 1<<63 + 1, math.MaxUint64} {
			tokens[1] = matched(4, back)
			if b, e := block.Unpack(made(tokens...)); e != api.ErrForm || b != nil {
				t.Fatalf("%d back of %d: error %d, want ErrForm", back, there, e)
			}
		}
	}
}

// TestIntoItself: P10.3: a match that reaches into its own bytes tells them again and again.
func TestIntoItself(t *testing.T) {
	for _, back := range []int{1, 2, 3, 4, 5, 7, 100, 127, 128, 254, 255} {
		for size := 4; size <= 255; size++ {
			piece := mixedBytes(uint64(back), back, 256)
			want := bytes.Repeat(piece, 2+size/back)[:back+size]
			if b, e := block.Unpack(made(literals(piece...), matched(uint64(size), uint64(back)))); e != api.OK || !bytes.Equal(b, want) {
				t.Fatalf("%d bytes from %d back: error %d, %x", size, back, e, b)
			}
		}
	}
}

// TestMatchLong: P10.3: matches up to MaxBlock bytes in all are taken, one byte more is refused.
func TestMatchLong(t *testing.T) {
	for size := 4; size <= 255; size++ {
		for _, back := range []uint64{1, 4, 1024} {
			fits, over := mixedBytes(9, 2048-size, 256), mixedBytes(9, 2049-size, 256)
			if b, e := block.Unpack(made(literals(fits...), matched(uint64(size), back))); e != api.OK || len(b) != 2048 || !bytes.Equal(b[:len(fits)], fits) {
				t.Fatalf("%d bytes up to the limit: error %d, %d bytes", size, e, len(b))
			}
			if b, e := block.Unpack(made(literals(over...), matched(uint64(size), back))); e != api.ErrLong || b != nil {
				t.Fatalf("%d bytes one past the limit: error %d, want ErrLong", size, e)
			}
		}
	}
	all := [][]byte{literals(7)}
	for range 8 {
		all = append(all, matched(255, 1))
	}
	for rest, want := range map[uint64]api.Errno{4: 0, 7: 0, 8: api.ErrLong, 255: api.ErrLong} {
		b, e := block.Unpack(made(append(all, matched(rest, 1))...))
		if e != want || e == api.OK && !bytes.Equal(b, row(7, 2041+int(rest))) || e != api.OK && b != nil {
			t.Errorf("%d bytes behind 2041: error %d, want %d", rest, e, want)
		}
	}
}

// TestNumbers: P10.3: a token's number, and a match's second one, that ends within or is longer than it need be, or than a number may be.
func TestNumbers(t *testing.T) {
	for _, x := range []struct {
		name string
		n    []byte
		e    api.Errno
	}{
		{"ends within", []byte{0x80}, api.ErrShort},
		{"ends within, two bytes", []byte{0x89, 0x80}, api.ErrShort},
		{"ends within, nine bytes", row(0xff, 9), api.ErrShort},
		{"0 of two bytes", []byte{0x80, 0}, api.ErrForm},
		{"1 of two bytes", []byte{0x81, 0}, api.ErrForm},
		{"2 of two bytes", []byte{0x82, 0}, api.ErrForm},
		{"9 of two bytes", []byte{0x89, 0}, api.ErrForm},
		{"9 of three bytes", []byte{0x89, 0x80, 0}, api.ErrForm},
		{"ten bytes and no end", row(0x80, 10), api.ErrForm},
		{"a tenth byte of 2", append(row(0x80, 9), 2), api.ErrForm},
		{"a tenth byte of 0", append(row(0x80, 9), 0), api.ErrForm},
	} {
		for _, ahead := range [][]byte{nil, literals(1, 2, 3), join(literals(1), matched(100, 1))} {
			if b, e := block.Unpack(made(ahead, x.n)); e != x.e || b != nil {
				t.Errorf("a token whose number %s: error %d, want %d", x.name, e, x.e)
			}
			for _, size := range []uint64{4, 63, 64, 255} {
				if b, e := block.Unpack(made(ahead, number(2*size+1), x.n)); e != x.e || b != nil {
					t.Errorf("a match whose second number %s: error %d, want %d", x.name, e, x.e)
				}
			}
		}
	}
}

// TestOrder: P10.3, R2: where several things are wrong, the answer is the first one's.
func TestOrder(t *testing.T) {
	full := literals(row(7, 2046)...)
	for _, x := range []struct {
		name   string
		tokens [][]byte
		e      api.Errno
	}{
		{"more literals than may be, and than are left", [][]byte{number(2 * 2049), {7}}, api.ErrLong},
		{"the same, of 2^63 - 1", [][]byte{number(math.MaxUint64 - 1)}, api.ErrLong},
		{"the same, of 2^16 + 1, of which the lowest bits are one that is left", [][]byte{number(2 * (1<<16 + 1)), {7}}, api.ErrLong},
		{"the same, of 2^32 + 1", [][]byte{number(2 * (1<<32 + 1)), {7}}, api.ErrLong},
		{"the same, of 2^62 + 1", [][]byte{number(2 * (1<<62 + 1)), {7}}, api.ErrLong},
		{"as many as may be, and more than are left", [][]byte{number(2 * 2048), {7}}, api.ErrShort},
		{"literals of which one too many, none left", [][]byte{full, number(2 * 3)}, api.ErrLong},
		{"literals that just may be, none left", [][]byte{full, number(2 * 2)}, api.ErrShort},
		{"no literals behind full bytes", [][]byte{full, literals(1, 2), {0}}, api.ErrForm},
		{"a small match without a second number", [][]byte{literals(1), {7}}, api.ErrForm},
		{"a match of none without a second number", [][]byte{literals(1), {1}}, api.ErrForm},
		{"a great match without a second number", [][]byte{literals(1), number(2*256 + 1)}, api.ErrForm},
		{"a small match whose second number ends within", [][]byte{literals(1), {7, 0x80}}, api.ErrForm},
		{"a small match, too long", [][]byte{full, {7, 1}}, api.ErrForm},
		{"a great match, too long", [][]byte{full, matched(256, 1)}, api.ErrForm},
		{"a match too long, without a second number", [][]byte{full, {9}}, api.ErrShort},
		{"a match too long, whose second number ends within", [][]byte{full, {9, 0x80}}, api.ErrShort},
		{"a match too long, whose second number is longer than it need be", [][]byte{full, {9, 0x81, 0}}, api.ErrForm},
		{"a match too long, from 0 back", [][]byte{full, matched(4, 0)}, api.ErrForm},
		{"a match too long, from above Window", [][]byte{full, matched(4, 1025)}, api.ErrForm},
		{"a match too long", [][]byte{full, matched(4, 1024)}, api.ErrLong},
		{"a match of nothing from 0 back", [][]byte{matched(4, 0)}, api.ErrForm},
		{"a match first of all", [][]byte{matched(4, 1)}, api.ErrForm},
		{"a match first of all, without a second number", [][]byte{{9}}, api.ErrShort},
		{"a wrong match ahead of one that ends within", [][]byte{literals(1), matched(4, 2), {9}}, api.ErrForm},
		{"too many literals ahead of none", [][]byte{full, literals(1, 2, 3), {0}}, api.ErrLong},
		{"no literals ahead of too many", [][]byte{full, {0}, literals(1, 2, 3)}, api.ErrForm},
		{"a number that ends within behind what is right", [][]byte{full, literals(1, 2), {0x80}}, api.ErrShort},
	} {
		p := made(x.tokens...)
		if b, e := block.Unpack(p); e != x.e || b != nil {
			t.Errorf("%s: error %d, want %d", x.name, e, x.e)
		}
		sameUnpack(t, p)
	}
}

// TestUnpackAll: P10.3 at all lists of up to 5 bytes behind 01 of some that count.
func TestUnpackAll(t *testing.T) {
	kinds := []byte{0, 1, 2, 3, 4, 7, 8, 9, 11, 0x80, 0x81}
	seen := map[api.Errno]int{}
	var grow func(p []byte)
	grow = func(p []byte) {
		seen[sameUnpack(t, p)]++
		if len(p) == 6 {
			return
		}
		for _, c := range kinds {
			grow(append(p[:len(p):len(p)], c))
		}
	}
	grow([]byte{1})
	for _, e := range []api.Errno{api.OK, api.ErrForm, api.ErrShort} {
		if seen[e] < 1000 {
			t.Errorf("the lists say little of error %d: %d", e, seen[e])
		}
	}
}

// mixedTokens are some tokens, most of which may be, about the limits, and often one that may not be behind them.
func mixedTokens(k uint64) []byte {
	p, there := []byte{1}, uint64(0)
	for i := range 1 + mixed(k)%12 {
		w := mixed(k*64 + i)
		size := []uint64{1 + w>>8%6, 1 + w>>8%200, 1 + w>>8%1100}[w%3]
		if w>>4%2 == 0 && there > 0 {
			size = []uint64{4 + w>>8%3, 4 + w>>8%252, 253 + w>>8%3}[w%3]
			nearest := min(there, 1024)
			back := []uint64{1, 1 + w>>20%nearest, nearest, 1 + w>>20%min(nearest, 8)}[w>>30%4]
			p = append(p, matched(size, back)...)
		} else {
			p = append(p, literals(mixedBytes(k*64+i, int(size), 256)...)...)
		}
		there += size
	}
	if w := mixed(k + 77); w%2 == 0 {
		p = append(p, [][]byte{{0}, {7, 1}, matched(256, 1), matched(4, there+1), matched(4, 0), matched(4, 1025), {9}, {0x80}, {0x82, 0}, {9, 0x81, 0}, {20, 1}, number(2*(2049-there) + w>>8%2)}[w>>16%12]...)
	}
	return p
}

// TestMixedTokens: P10.3, P10.4: mixed tokens as they are, cut, and with a byte changed, put in, left out.
func TestMixedTokens(t *testing.T) {
	seen := map[api.Errno]int{}
	for k := range uint64(6000) {
		p := mixedTokens(k)
		seen[sameUnpack(t, p)]++
		w := mixed(k + 1<<20)
		at, c := 1+int(w%uint64(len(p)-1)), byte(w>>40)
		for _, q := range [][]byte{p[:at], join(p[:at], []byte{c}, p[at:]), join(p[:at], []byte{c}, p[at+1:]), join(p[:at], p[at+1:]), append(p[:len(p):len(p)], c)} {
			seen[sameUnpack(t, q)]++
		}
	}
	for _, e := range []api.Errno{api.OK, api.ErrForm, api.ErrShort, api.ErrLong} {
		if seen[e] < 1000 {
			t.Errorf("the tokens say little of error %d: %d", e, seen[e])
		}
	}
}

// TestNoise: P10.3, P10.4 at bytes that are mostly no tokens, of all lengths.
func TestNoise(t *testing.T) {
	for k := range uint64(4000) {
		b := mixedBytes(k, int(mixed(k)%2300), []int{2, 5, 12, 130, 256}[k%5])
		sameUnpack(t, b)
		sameUnpack(t, join([]byte{1}, b))
	}
}
