package stuff_test

import (
	"bytes"
	"testing"

	"gabion/api"
	"gabion/stuff"
)

// mixed is the n-th of a row of well mixed words, the same ones in every run.
func mixed(n uint64) uint64 {
	z := (n + 1) * 0x9e3779b97f4a7c15
	z = (z ^ z>>30) * 0xbf58476d1ce4e5b9
	z = (z ^ z>>27) * 0x94d049bb133111eb
	return z ^ z>>31
}

// mixedBytes are n mixed bytes, about one of `every` of them zero; none, if that is 0.
func mixedBytes(seed uint64, n int, every uint64) []byte {
	b := make([]byte, n)
	for i := range b {
		w := mixed(seed<<24 + uint64(i))
		b[i] = byte(w%255) + 1
		if every > 0 && w>>32%every == 0 {
			b[i] = 0
		}
	}
	return b
}

func row(c byte, n int) []byte { return bytes.Repeat([]byte{c}, n) }

func join(l ...[]byte) []byte { return bytes.Join(l, nil) }

// wordStuff is P4.1 by another way: b is cut at its zero bytes first, and each piece then into 254s and a rest.
func wordStuff(b []byte) []byte {
	var s []byte
	pieces := bytes.Split(b, []byte{0})
	for i, p := range pieces {
		whole := len(p) / 254
		for k := range whole {
			s = append(append(s, 255), p[254*k:254*(k+1)]...)
		}
		rest := p[254*whole:]
		endsWithWhole := i == len(pieces)-1 && whole > 0 && len(rest) == 0
		if !endsWithWhole {
			s = append(append(s, byte(1+len(rest))), rest...)
		}
	}
	return s
}

// wordUnstuff is P4.3 by the words: each error is asked by itself.
func wordUnstuff(s []byte) ([]byte, api.Errno) {
	if bytes.Contains(s, []byte{0}) {
		return nil, api.ErrZero
	}
	var groups [][]byte
	for at := 0; at < len(s); {
		behind := at + int(s[at])
		if behind > len(s) {
			return nil, api.ErrShort
		}
		groups = append(groups, s[at+1:behind])
		at = behind
	}
	n := len(groups)
	switch {
	case n == 0:
		return nil, api.ErrShort
	case n > 1 && len(groups[n-1]) == 0 && len(groups[n-2]) == 254:
		return nil, api.ErrForm
	}
	b := append([]byte(nil), groups[0]...)
	for i := 1; i < n; i++ {
		if len(groups[i-1]) < 254 {
			b = append(b, 0)
		}
		b = append(b, groups[i]...)
	}
	return b, api.OK
}

// words are all lists of 0 to most bytes below `below`.
func words(below byte, most int) [][]byte {
	l := [][]byte{nil}
	for from, size := 0, 1; size <= most; size++ {
		end := len(l)
		for _, w := range l[from:end] {
			for c := range below {
				l = append(l, append(append([]byte(nil), w...), c))
			}
		}
		from = end
	}
	return l
}

// lists are lists of bytes: all short ones of few bytes, each byte alone, rows without a zero about the edges with none, one and two zero bytes on either side, zero bytes at each place of a long row, and mixed ones with many zero bytes, few, and none.
func lists() [][]byte {
	l := words(4, 5)
	for c := range 256 {
		l = append(l, []byte{byte(c)}, []byte{byte(c), 0}, []byte{0, byte(c)}, []byte{byte(c), 255})
	}
	for _, n := range []int{0, 1, 2, 252, 253, 254, 255, 256, 507, 508, 509, 510, 761, 762, 763} {
		for ahead := range 3 {
			for behind := range 3 {
				l = append(l, join(row(0, ahead), row(7, n), row(0, behind)), join(row(0, ahead), row(255, n), row(0, behind), row(1, n)))
			}
		}
	}
	for i := range 520 {
		b := mixedBytes(uint64(i), 520, 0)
		b[i] = 0
		l = append(l, b, b[:i+1], b[i:], row(0, i), row(255, i))
	}
	for k := range uint64(60) {
		for _, every := range []uint64{0, 1, 2, 5, 100, 254, 400} {
			l = append(l, mixedBytes(1000+k, int(mixed(k)%1200), every))
		}
	}
	return append(l, mixedBytes(2000, 65536, 0), mixedBytes(2001, 65536, 254), mixedBytes(2002, 65536, 2), make([]byte, 65536))
}

// brief is a list's beginning and length, as whole lists would hide what is wrong with them.
func brief(b []byte) (int, []byte) { return len(b), b[:min(len(b), 12)] }

func sameStuff(t *testing.T, b, want []byte) {
	t.Helper()
	if got := stuff.Stuff(b); !bytes.Equal(got, want) {
		n, begin := brief(b)
		t.Errorf("Stuff of %d bytes (%x ..) = %x, want %x", n, begin, got, want)
	}
	if got := stuff.Len(b); got != len(want) {
		n, begin := brief(b)
		t.Errorf("Len of %d bytes (%x ..) = %d, want %d", n, begin, got, len(want))
	}
}

func sameUnstuff(t *testing.T, s, want []byte, wantE api.Errno) {
	t.Helper()
	if got, e := stuff.Unstuff(s); !bytes.Equal(got, want) || e != wantE {
		n, begin := brief(s)
		t.Errorf("Unstuff of %d bytes (%x ..) = %x, %d, want %x, %d", n, begin, got, e, want, wantE)
	}
}

// TestExamples: the chapter's examples.
func TestExamples(t *testing.T) {
	for _, x := range []struct{ b, s []byte }{
		{nil, []byte{1}},
		{[]byte{}, []byte{1}},
		{[]byte{0}, []byte{1, 1}},
		{[]byte{0, 0}, []byte{1, 1, 1}},
		{[]byte{0x11, 0x22, 0, 0x33}, []byte{3, 0x11, 0x22, 2, 0x33}},
		{[]byte{0x11, 0}, []byte{2, 0x11, 1}},
		{row(1, 254), join([]byte{0xff}, row(1, 254))},
		{row(1, 255), join([]byte{0xff}, row(1, 254), []byte{2, 1})},
		{join(row(1, 254), []byte{0}), join([]byte{0xff}, row(1, 254), []byte{1, 1})},
	} {
		sameStuff(t, x.b, x.s)
		sameUnstuff(t, x.s, x.b, api.OK)
	}
	for _, x := range []struct {
		s []byte
		e api.Errno
	}{
		{[]byte{3, 0x11, 0}, api.ErrZero},
		{nil, api.ErrShort},
		{[]byte{}, api.ErrShort},
		{[]byte{3, 0x11}, api.ErrShort},
		{[]byte{2, 0x11, 5}, api.ErrShort},
		{join([]byte{0xff}, row(1, 254), []byte{1}), api.ErrForm},
	} {
		sameUnstuff(t, x.s, nil, x.e)
	}
}

// TestZeros: P4.1, P4.2, P4.3: one zero byte and several, at the beginning, at the end, side by side and alone, told by hand.
func TestZeros(t *testing.T) {
	for _, x := range []struct{ b, s []byte }{
		{[]byte{0, 9}, []byte{1, 2, 9}},
		{[]byte{0, 0, 9}, []byte{1, 1, 2, 9}},
		{[]byte{9, 0}, []byte{2, 9, 1}},
		{[]byte{9, 0, 0}, []byte{2, 9, 1, 1}},
		{[]byte{9, 0, 0, 0}, []byte{2, 9, 1, 1, 1}},
		{[]byte{9, 0, 0, 8}, []byte{2, 9, 1, 2, 8}},
		{[]byte{9, 0, 8, 0, 7}, []byte{2, 9, 2, 8, 2, 7}},
		{[]byte{0, 9, 0}, []byte{1, 2, 9, 1}},
		{[]byte{0, 0, 9, 8, 0, 0}, []byte{1, 1, 3, 9, 8, 1, 1}},
		{[]byte{9}, []byte{2, 9}},
		{[]byte{1, 2, 255}, []byte{4, 1, 2, 255}},
		{make([]byte, 300), row(1, 301)},
	} {
		sameStuff(t, x.b, x.s)
		sameUnstuff(t, x.s, x.b, api.OK)
	}
}

// TestLongGroups: P4.1, P4.2, P4.3: groups of 253, 254 and 255 bytes and of twice 254, with and without zero bytes about them, told by hand.
func TestLongGroups(t *testing.T) {
	z, one := []byte{0}, []byte{1}
	full, fullBack := row(9, 254), join([]byte{255}, row(9, 254))
	near, nearBack := row(9, 253), join([]byte{254}, row(9, 253))
	for _, x := range []struct{ b, s []byte }{
		{near, nearBack},
		{join(near, z), join(nearBack, one)},
		{join(near, z, z), join(nearBack, one, one)},
		{join(near, z, []byte{8}), join(nearBack, []byte{2, 8})},
		{join(near, z, near), join(nearBack, nearBack)},
		{join(near, z, full), join(nearBack, fullBack)},
		{full, fullBack},
		{join(full, z), join(fullBack, one, one)},
		{join(full, z, z), join(fullBack, one, one, one)},
		{join(full, z, []byte{8}), join(fullBack, one, []byte{2, 8})},
		{join(full, z, full), join(fullBack, one, fullBack)},
		{join(z, full), join(one, fullBack)},
		{join(z, full, z), join(one, fullBack, one, one)},
		{row(9, 255), join(fullBack, []byte{2, 9})},
		{join(row(9, 255), z), join(fullBack, []byte{2, 9, 1})},
		{join(row(9, 255), z, []byte{8}), join(fullBack, []byte{2, 9, 2, 8})},
		{row(9, 507), join(fullBack, nearBack)},
		{join(row(9, 507), z), join(fullBack, nearBack, one)},
		{row(9, 508), join(fullBack, fullBack)},
		{join(row(9, 508), z), join(fullBack, fullBack, one, one)},
		{row(9, 509), join(fullBack, fullBack, []byte{2, 9})},
		{row(9, 762), join(fullBack, fullBack, fullBack)},
	} {
		sameStuff(t, x.b, x.s)
		sameUnstuff(t, x.s, x.b, api.OK)
	}
}

// TestStuff: P4.1, P4.2, on all lists.
func TestStuff(t *testing.T) {
	for _, b := range lists() {
		sameStuff(t, b, wordStuff(b))
	}
}

// TestUnstuffErrors: P4.3's errors at the named edges, told by hand; where several apply, the first one named.
func TestUnstuffErrors(t *testing.T) {
	full := join([]byte{255}, row(9, 254))
	for _, x := range []struct {
		name string
		s    []byte
		e    api.Errno
	}{
		{"nothing", nil, api.ErrShort},
		{"a zero byte", []byte{0}, api.ErrZero},
		{"zero bytes", []byte{0, 0}, api.ErrZero},
		{"a zero byte ahead of a group", []byte{0, 2, 9}, api.ErrZero},
		{"a zero byte between groups", []byte{2, 9, 0, 2, 9}, api.ErrZero},
		{"a zero byte behind the last group", []byte{2, 9, 0}, api.ErrZero},
		{"a zero byte first in a group", []byte{3, 0, 9}, api.ErrZero},
		{"a zero byte last in a group", []byte{3, 9, 0}, api.ErrZero},
		{"a zero byte within a group", []byte{4, 9, 0, 9, 1}, api.ErrZero},
		{"a zero byte in a group that is not ended", []byte{9, 0}, api.ErrZero},
		{"a zero byte in a long group that is not ended", join([]byte{255}, row(9, 252), []byte{0}), api.ErrZero},
		{"a zero byte behind a group that is wrong", join(full, []byte{1, 0}), api.ErrZero},
		{"a count alone", []byte{2}, api.ErrShort},
		{"the greatest count alone", []byte{255}, api.ErrShort},
		{"one byte too few", []byte{3, 9}, api.ErrShort},
		{"one byte too few, of 254", join([]byte{255}, row(9, 253)), api.ErrShort},
		{"one byte too few, of 253", join([]byte{254}, row(9, 252)), api.ErrShort},
		{"a second group that is not ended", []byte{2, 9, 2}, api.ErrShort},
		{"a second group that is not ended, behind 254", join(full, []byte{2}), api.ErrShort},
		{"a third group that is not ended, behind 254 and none", join(full, []byte{1, 2}), api.ErrShort},
		{"a last group of none behind 254", join(full, []byte{1}), api.ErrForm},
		{"the same behind others", join([]byte{1, 3, 9, 9}, full, []byte{1}), api.ErrForm},
		{"the same behind another 254", join(full, full, []byte{1}), api.ErrForm},
		{"the same behind 254 and none", join(full, []byte{1}, full, []byte{1}), api.ErrForm},
	} {
		if b, e := stuff.Unstuff(x.s); len(b) != 0 || e != x.e {
			t.Errorf("%s: Unstuff = %x, %d, want error %d", x.name, b, e, x.e)
		}
	}
}

// TestUnstuffTakes: P4.3 at what is near to an error, and is none.
func TestUnstuffTakes(t *testing.T) {
	full := join([]byte{255}, row(9, 254))
	for _, x := range []struct {
		name string
		s, b []byte
	}{
		{"one group of none", []byte{1}, nil},
		{"254 and two of none", join(full, []byte{1, 1}), join(row(9, 254), []byte{0})},
		{"254 and one", join(full, []byte{2, 7}), join(row(9, 254), []byte{7})},
		{"253 and none", join([]byte{254}, row(9, 253), []byte{1}), join(row(9, 253), []byte{0})},
		{"none and 254", join([]byte{1}, full), join([]byte{0}, row(9, 254))},
		{"254, one and none", join(full, []byte{2, 7, 1}), join(row(9, 254), []byte{7, 0})},
		{"254 that look like counts", join([]byte{255}, row(1, 254)), row(1, 254)},
		{"254 bytes 255", row(255, 255), row(255, 254)},
	} {
		if b, e := stuff.Unstuff(x.s); !bytes.Equal(b, x.b) || e != api.OK {
			t.Errorf("%s: Unstuff = %x, %d, want %x", x.name, b, e, x.b)
		}
	}
}

// TestUnstuff: P4.3 at bytes most of which stand for none: each list of those here as it is, and stuffed ones cut at each end, one byte changed.
func TestUnstuff(t *testing.T) {
	check := func(s []byte) {
		t.Helper()
		b, e := wordUnstuff(s)
		sameUnstuff(t, s, b, e)
	}
	for i, b := range lists() {
		check(b)
		s := wordStuff(b)
		if len(s) > 2000 {
			continue
		}
		check(s[1:])
		check(s[:len(s)-1])
		check(append(s, 1))
		at, c := int(mixed(uint64(i))%uint64(len(s))), byte(mixed(uint64(i)+7))
		check(join(s[:at], []byte{c}, s[at+1:]))
		check(join(s[:at], []byte{1}, s[at:]))
	}
}

// TestUnstuffAll: P4.3: of all lists of up to 6 bytes below 5 just those are taken that Stuff makes of some bytes, and told are these. (Such bytes are below 5, too, and 5 at most.)
func TestUnstuffAll(t *testing.T) {
	of := map[string][]byte{}
	for _, b := range words(5, 5) {
		of[string(stuff.Stuff(b))] = b
	}
	for _, s := range words(5, 6) {
		want, made := of[string(s)]
		got, e := stuff.Unstuff(s)
		if made != (e == api.OK) || !bytes.Equal(got, want) {
			t.Errorf("Unstuff(%x) = %x, %d; made of %x: %t", s, got, e, want, made)
		}
	}
}

// TestThereAndBack: P4.4: no zero byte, the bounds of the length, and Unstuff tells b.
func TestThereAndBack(t *testing.T) {
	for _, b := range lists() {
		s := stuff.Stuff(b)
		n, begin := brief(b)
		if bytes.IndexByte(s, 0) >= 0 {
			t.Errorf("Stuff of %d bytes (%x ..) has a zero byte", n, begin)
		}
		if most := n + 1 + n/254; len(s) < n+1 || len(s) > most {
			t.Errorf("Stuff of %d bytes (%x ..) has %d, at most %d may be", n, begin, len(s), most)
		}
		sameUnstuff(t, s, b, api.OK)
	}
}

// TestBounds: P4.4: both bounds of the length are reached, at each length.
func TestBounds(t *testing.T) {
	for n := range 1100 {
		if got := stuff.Len(make([]byte, n)); got != n+1 {
			t.Errorf("Len of %d zero bytes = %d", n, got)
		}
		want := n + 1 + n/254
		if n > 0 && n%254 == 0 {
			want-- // no group behind the last 254
		}
		if got := stuff.Len(row(1, n)); got != want {
			t.Errorf("Len of %d bytes 01 = %d, want %d", n, got, want)
		}
	}
}

// TestBackAndThere: P4.4: of what Unstuff takes, what it tells stuffed is that again.
func TestBackAndThere(t *testing.T) {
	again := func(s []byte) {
		t.Helper()
		if b, e := stuff.Unstuff(s); e == api.OK && !bytes.Equal(stuff.Stuff(b), s) {
			t.Errorf("Unstuff(%x) = %x, and that stuffed is %x", s, b, stuff.Stuff(b))
		}
	}
	for _, s := range words(4, 7) {
		again(s)
	}
	for k := range uint64(3000) {
		again(mixedGroups(k))
	}
}

// mixedGroups are some groups, many of them of 254, of 253 and of no bytes.
func mixedGroups(k uint64) []byte {
	var s []byte
	for i := range 1 + mixed(k)%5 {
		w := mixed(k*8 + i)
		size := int([]uint64{254, 254, 253, 0, 0, 1, w >> 8 % 255, w >> 8 % 4}[w%8])
		s = append(append(s, byte(size+1)), mixedBytes(k*8+i, size, 0)...)
	}
	return s
}

// TestGroups: P4.3: groups that are all there are taken, unless the last one is of none behind 254.
func TestGroups(t *testing.T) {
	taken, wrong := 0, 0
	for k := range uint64(3000) {
		s := mixedGroups(k)
		b, e := wordUnstuff(s)
		sameUnstuff(t, s, b, e)
		switch e {
		case api.OK:
			taken++
		case api.ErrForm:
			wrong++
		}
	}
	if taken < 1000 || wrong < 100 || taken+wrong != 3000 {
		t.Errorf("the groups say little: %d taken, %d wrong", taken, wrong)
	}
}

// TestUnlike: P4.5: no two lists are stuffed into the same bytes.
func TestUnlike(t *testing.T) {
	of := map[string]string{}
	all := append(lists(), words(6, 5)...)
	for _, b := range all {
		s := string(stuff.Stuff(b))
		if other, there := of[s]; there && other != string(b) {
			t.Errorf("%x and %x are both stuffed into %x", other, b, s)
		}
		of[s] = string(b)
	}
}

// fences is b within a larger list, with room ahead of it and behind, and that list.
func fences(b []byte) (within, whole []byte) {
	whole = join(row(0xa5, 20), b, row(0x5a, 20+len(b)))
	return whole[20 : 20+len(b)], whole
}

// TestArgumentStays: R4, R5: what is handed in stays, with the room about it; nothing of that room counts; a second call answers the same.
func TestArgumentStays(t *testing.T) {
	for k := range uint64(200) {
		for _, b := range [][]byte{mixedBytes(k, int(mixed(k)%600), 40), mixedGroups(k), wordStuff(mixedBytes(k, 300, 0))} {
			within, whole := fences(b)
			before := append([]byte(nil), whole...)
			for range 2 {
				sameStuff(t, within, wordStuff(b))
				want, e := wordUnstuff(b)
				sameUnstuff(t, within, want, e)
			}
			if !bytes.Equal(whole, before) {
				t.Fatalf("what was handed in was changed: %x", b)
			}
		}
	}
}

// spoil writes into a list and into the room behind it.
func spoil(b []byte) {
	b = b[:cap(b)]
	for i := range b {
		b[i] ^= 0x55
	}
}

// TestAnswersAreTheCallers: R4, R5: who writes into what was handed in, or into an answer and the room behind it, changes no other.
func TestAnswersAreTheCallers(t *testing.T) {
	for _, b := range [][]byte{nil, {0}, {9}, {9, 0}, row(9, 254), row(9, 255), join(row(9, 254), []byte{0}), mixedBytes(3, 700, 50)} {
		want := wordStuff(b)
		given := append(make([]byte, 0, 2*len(b)+8), b...)
		first, second := stuff.Stuff(given), stuff.Stuff(given)
		spoil(given)
		if !bytes.Equal(first, want) || !bytes.Equal(second, want) {
			t.Fatalf("Stuff(%x) shares memory with its argument", b)
		}
		spoil(first)
		if !bytes.Equal(second, want) || !bytes.Equal(stuff.Stuff(b), want) {
			t.Fatalf("Stuff(%x) shares memory with another answer", b)
		}
		stuffed := append(make([]byte, 0, 2*len(want)+8), want...)
		back, backAgain := mustUnstuff(t, stuffed), mustUnstuff(t, stuffed)
		spoil(back)
		if !bytes.Equal(stuffed, want) || !bytes.Equal(backAgain, b) {
			t.Fatalf("Unstuff(%x) shares memory with its argument or another answer", want)
		}
		spoil(stuffed)
		if !bytes.Equal(backAgain, b) || !bytes.Equal(mustUnstuff(t, want), b) {
			t.Fatalf("Unstuff(%x) shares memory with its argument or another answer", want)
		}
	}
}

func mustUnstuff(t *testing.T, s []byte) []byte {
	t.Helper()
	b, e := stuff.Unstuff(s)
	if e != api.OK {
		t.Fatalf("Unstuff(%x): error %d", s, e)
	}
	return b
}

// FuzzStuff: any bytes stuffed are those of the words and come back; any bytes taken back are those of the words.
func FuzzStuff(f *testing.F) {
	f.Add([]byte{})
	f.Add([]byte{0x11, 0x22, 0, 0x33})
	f.Add(row(1, 255))
	f.Add(join([]byte{255}, row(1, 254), []byte{1}))
	f.Add(join([]byte{255}, row(1, 254), []byte{1, 1}))
	f.Fuzz(func(t *testing.T, b []byte) {
		sameStuff(t, b, wordStuff(b))
		sameUnstuff(t, stuff.Stuff(b), b, api.OK)
		back, e := wordUnstuff(b)
		sameUnstuff(t, b, back, e)
		if e == api.OK && !bytes.Equal(stuff.Stuff(back), b) {
			t.Errorf("Unstuff(%x) = %x, and that stuffed is %x", b, back, stuff.Stuff(back))
		}
	})
}
