package batch_test

import (
	"math"
	"slices"
	"strings"
	"testing"

	"gabion/api"
	"gabion/batch"
	"gabion/block"
)

// sameUnpack asks what Unpack answers, and, where it takes the block, all that follows.
func sameUnpack(t *testing.T, s api.Schema, b []byte, n int, want api.Errno) {
	t.Helper()
	words, wordE := wordUnpack(s, b, n)
	if wordE != want {
		t.Fatalf("by the words Unpack(%s; %.80x, %d) is %d, not %d", brief(columns(s)), b, n, wordE, want)
	}
	l, e := batch.Unpack(s, b, n)
	if e != want || exact(l) != exact(words) || len(l) != len(words) {
		t.Fatalf("Unpack(%s; %.80x, %d): %s, %d, want %s, %d", brief(columns(s)), b, n, brief(exact(l)), e, brief(exact(words)), want)
	}
	if e != api.OK {
		if len(l) != 0 {
			t.Fatalf("Unpack(%s; %.80x, %d): %d rows beside the error %d", brief(columns(s)), b, n, len(l), e)
		}
		return
	}
	all, _ := block.Unpack(b)
	if size, e := batch.Size(s, l); e != api.OK || size != len(all) {
		t.Fatalf("Size of Unpack(%s; %.80x, %d): %d, %d, want %d", brief(columns(s)), b, n, size, e, len(all))
	}
	p, e := batch.Pack(s, l)
	if e != api.OK {
		t.Fatalf("Pack of Unpack(%s; %.80x, %d): %d", brief(columns(s)), b, n, e)
	}
	if again, e := batch.Unpack(s, p, n); e != api.OK || exact(again) != exact(l) {
		t.Fatalf("Unpack of Pack of Unpack(%s; %.80x, %d): %s, %d", brief(columns(s)), b, n, brief(exact(again)), e)
	}
}

// asUnpacked is sameUnpack with the error that the words tell.
func asUnpacked(t *testing.T, s api.Schema, b []byte, n int) api.Errno {
	t.Helper()
	_, e := wordUnpack(s, b, n)
	sameUnpack(t, s, b, n, e)
	return e
}

// asOneNumber asks that a block is taken as no more than one number of rows, and as n, if n is above 0: as fewer bytes are left, as more they end.
func asOneNumber(t *testing.T, s api.Schema, b []byte, n int) {
	t.Helper()
	taken := 0
	for rows := -1; rows <= 66; rows++ {
		want := api.ErrForm
		switch {
		case rows < 1:
			want = api.ErrEmpty
		case rows > 64:
			want = api.ErrMany
		case rows > n:
			want = api.ErrShort
		case rows == n:
			want = api.OK
		}
		e := asUnpacked(t, s, b, rows)
		if n > 0 && e != want {
			t.Fatalf("Unpack(%s; %.80x, %d) is %d, not %d", brief(columns(s)), b, rows, e, want)
		}
		if e == api.OK {
			taken++
		}
	}
	if taken > 1 {
		t.Fatalf("%.80x is unpacked as %d numbers of rows under %s", b, taken, brief(columns(s)))
	}
}

// TestUnpackExamples: P11.3: the chapter's.
func TestUnpackExamples(t *testing.T) {
	b := []byte{0x00, 0x02, 0x01, 0x80, 0x01}
	l, e := batch.Unpack(ints, b, 3)
	if e != api.OK || exact(l) != exact(rows(number(1), number(-1), number(64))) {
		t.Errorf("%s, %d", exact(l), e)
	}
	for _, one := range []struct {
		n int
		e api.Errno
	}{{3, api.OK}, {2, api.ErrForm}, {4, api.ErrShort}, {0, api.ErrEmpty}, {65, api.ErrMany}} {
		sameUnpack(t, ints, b, one.n, one.e)
	}
	sameUnpack(t, ints, nil, 1, api.ErrEmpty)
	sameUnpack(t, ints, []byte{2}, 1, api.ErrForm)
	sameUnpack(t, of(), b, 1, api.ErrEmpty)
	sameUnpack(t, of(), nil, 1, api.ErrEmpty)
}

// TestOneNumber: P11.3, P11.5: rows asked for: below 0, 0, 1, one fewer and one more than there are, 64, 65 and all between.
func TestOneNumber(t *testing.T) {
	for n := 1; n <= 64; n++ {
		b := strings.Repeat("\x07", n)
		asOneNumber(t, ints, raw(b), n)
		asOneNumber(t, ints, literals(b), n)
		p, _ := batch.Pack(ints, rows(times(n, number(-300))...))
		asOneNumber(t, ints, p, n)
	}
	for _, one := range unlikeRows() {
		p, _ := batch.Pack(one.s, one.l)
		asOneNumber(t, one.s, p, len(one.l))
		asOneNumber(t, one.s, raw(string(wordBytes(one.l))), len(one.l))
	}
	// Of 65 rows of bytes 64 can be asked for, and one is left then.
	asOneNumber(t, ints, raw(strings.Repeat("\x07", 65)), 65)
	asOneNumber(t, ints, raw(strings.Repeat("\x07", 2048)), 2048)
	for _, far := range []int{math.MinInt, math.MinInt + 1, -1 << 32, -65, -64} {
		sameUnpack(t, ints, raw("\x07"), far, api.ErrEmpty)
	}
	for _, far := range []int{66, 127, 128, 1 << 16, 1<<32 + 1, math.MaxInt - 1, math.MaxInt} {
		sameUnpack(t, ints, raw("\x07"), far, api.ErrMany)
	}
}

// wrongBlocks are bytes that block.Unpack refuses, in each of its ways.
func wrongBlocks() []struct {
	b string
	e api.Errno
} {
	x := func(n int) string { return strings.Repeat("\x02", n) }
	return []struct {
		b string
		e api.Errno
	}{
		{"", api.ErrEmpty}, {"\x02", api.ErrForm}, {"\x02\x02\x02", api.ErrForm}, {"\xff", api.ErrForm},
		{"\x00" + x(2049), api.ErrLong}, {"\x00" + x(5000), api.ErrLong},
		{"\x01\x80", api.ErrShort}, {"\x01\x80\x00", api.ErrForm}, {"\x01\x00", api.ErrForm}, {"\x01\x02", api.ErrShort}, {"\x01\x04\x02", api.ErrShort},
		{"\x01\x82\x20" + x(2049), api.ErrLong}, {"\x01\x02\x02\x80\x20" + x(2048), api.ErrLong}, {"\x01\xff\xff\xff\xff\xff\xff\xff\xff\xff\x02", api.ErrForm}, {"\x01\xfe\xff\xff\xff\xff\xff\xff\xff\xff\x01", api.ErrLong},
		{"\x01\x02\x02\x07\x01", api.ErrForm}, {"\x01\x02\x02\x81\x04\x01", api.ErrForm}, {"\x01\x02\x02\x09", api.ErrShort}, {"\x01\x02\x02\x09\x80", api.ErrShort}, {"\x01\x02\x02\x09\x81\x00", api.ErrForm},
		{"\x01\x02\x02\x09\x00", api.ErrForm}, {"\x01\x02\x02\x09\x02", api.ErrForm}, {"\x01\x09\x01", api.ErrForm}, {"\x01\x84\x10" + x(1026) + "\x09\x81\x08", api.ErrForm}, {"\x01\xfa\x1f" + x(2045) + "\x09\x01", api.ErrLong},
	}
}

// TestWrongBlocks: P11.3: what block.Unpack refuses, behind a schema and a count that may be, whatever the rows would be.
func TestWrongBlocks(t *testing.T) {
	for _, one := range wrongBlocks() {
		if _, e := block.Unpack([]byte(one.b)); e != one.e {
			t.Fatalf("block.Unpack(%.40x): %d, not %d", one.b, e, one.e)
		}
		for _, s := range []api.Schema{ints, texts, alone(optOf(ofBool)), of(plain("a", ofFloat), plain("b", listOf(ofText)))} {
			for _, n := range []int{1, 2, 3, 63, 64} {
				sameUnpack(t, s, []byte(one.b), n, one.e)
			}
			for _, n := range []int{math.MinInt, -1, 0} {
				sameUnpack(t, s, []byte(one.b), n, api.ErrEmpty)
			}
			for _, n := range []int{65, 66, math.MaxInt} {
				sameUnpack(t, s, []byte(one.b), n, api.ErrMany)
			}
		}
	}
}

// TestNoBytes: P11.3: a block of no bytes has no row, not even one.
func TestNoBytes(t *testing.T) {
	for _, s := range []api.Schema{ints, texts, alone(ofBool), alone(ofFloat), alone(ofBytes), alone(optOf(ofInt)), alone(listOf(ofInt))} {
		for _, n := range []int{1, 2, 64} {
			sameUnpack(t, s, []byte{0}, n, api.ErrShort)
			sameUnpack(t, s, []byte{1}, n, api.ErrShort)
		}
		sameUnpack(t, s, []byte{0}, 0, api.ErrEmpty)
		sameUnpack(t, s, []byte{1}, 0, api.ErrEmpty)
		sameUnpack(t, s, []byte{1}, 65, api.ErrMany)
	}
}

// TestWrongRowsRead: P11.3: the first row that is wrong tells its error, wherever it stands, ahead of the bytes behind it.
func TestWrongRowsRead(t *testing.T) {
	wrong := []struct {
		b string
		e api.Errno
	}{
		{"\x80\x00", api.ErrForm}, {"\x81\x08", api.ErrLong}, {"\x01\xff", api.ErrUtf}, {"\xff\x07" + strings.Repeat("x", 1023), api.ErrLong}, {"\x80\x08" + strings.Repeat("x", 1024), api.ErrLong},
	}
	for _, one := range wrong {
		for _, ahead := range []int{0, 1, 2, 63} {
			right := strings.Repeat("\x01a", ahead)
			for _, behind := range []string{"", "\x00", "\x01a", "\x01\xff", "\x81\x08"} {
				for _, b := range [][]byte{raw(right + one.b + behind), literals(right + one.b + behind)} {
					for n := ahead + 1; n <= 64; n++ {
						sameUnpack(t, texts, b, n, one.e)
					}
					// Fewer rows end ahead of it: it is bytes that are left then.
					if ahead > 0 {
						sameUnpack(t, texts, b, ahead, api.ErrForm)
						sameUnpack(t, texts, b, 1, api.ErrForm)
					}
				}
			}
		}
	}
	for _, one := range wrong {
		for _, other := range wrong[:3] {
			sameUnpack(t, texts, raw("\x00"+one.b+other.b), 3, one.e)
			sameUnpack(t, texts, raw("\x00"+one.b+other.b), 64, one.e)
		}
	}
	// A row of just MaxRow bytes is taken, ahead of others and behind them.
	full := "\xfe\x07" + strings.Repeat("x", 1022)
	sameUnpack(t, texts, raw(full), 1, api.OK)
	sameUnpack(t, texts, raw(full+full), 2, api.OK)
	sameUnpack(t, texts, raw("\x00"+full+"\x00"), 3, api.OK)
	sameUnpack(t, texts, raw(full+full), 3, api.ErrShort)
	sameUnpack(t, texts, raw(full+full), 1, api.ErrForm)
	floats := alone(listOf(ofFloat))
	sameUnpack(t, floats, raw("\x01\x01\x00\x00\x00\x00\x00\xf8\x7f"), 1, api.ErrForm)
	sameUnpack(t, floats, raw("\x01\x00\x00\x00\x00\x00\x00\xf8\x7f\x00"), 2, api.OK)
	sameUnpack(t, alone(listOf(ofBool)), raw("\x00\x81\x02"), 2, api.ErrMany)
	sameUnpack(t, alone(ofBool), raw("\x00\x01\x02"), 3, api.ErrForm)
}

// TestCut: P11.3: bytes that end within a row, or behind one, or that are left behind the last one.
func TestCut(t *testing.T) {
	for _, one := range unlikeRows() {
		b, n := string(wordBytes(one.l)), len(one.l)
		for end := range b {
			sameUnpack(t, one.s, raw(b[:end]), n, api.ErrShort)
			if end > 0 {
				sameUnpack(t, one.s, literals(b[:end]), n, api.ErrShort)
			}
			asUnpacked(t, one.s, raw(b[end:]), n)
		}
		sameUnpack(t, one.s, raw(b), n, api.OK)
		sameUnpack(t, one.s, literals(b), n, api.OK)
		for c := range 256 {
			left := b + string([]byte{byte(c)})
			sameUnpack(t, one.s, raw(left), n, api.ErrForm)
			sameUnpack(t, one.s, literals(left), n, api.ErrForm)
		}
	}
}

// TestManyBlocksOfRows: P11.3, P11.4: a block need not be what Pack makes: raw, as literals, as matches, the rows are the same.
func TestManyBlocksOfRows(t *testing.T) {
	// 1, and then eight times 1 again from one back.
	sameUnpack(t, ints, []byte{1, 2, 2, 17, 1}, 9, api.OK)
	l, _ := batch.Unpack(ints, []byte{1, 2, 2, 17, 1}, 9)
	if exact(l) != exact(rows(times(9, number(1))...)) {
		t.Errorf("%s", exact(l))
	}
	// A match that ends within a row: "a", "aa" and what the match makes of their bytes.
	sameUnpack(t, texts, []byte{1, 10, 1, 'a', 2, 'a', 'a', 11, 5}, 4, api.OK)
	sameUnpack(t, texts, []byte{1, 10, 1, 'a', 2, 'a', 'a', 9, 5}, 4, api.ErrShort)
	for _, one := range rightGroups()[:500] {
		b := string(wordBytes(one.l))
		for _, p := range [][]byte{raw(b), literals(b)} {
			sameUnpack(t, one.s, p, len(one.l), api.OK)
			if l, _ := batch.Unpack(one.s, p, len(one.l)); exact(l) != fixed(one.l) {
				t.Fatalf("Unpack(%s; %.80x): %s, want %s", brief(columns(one.s)), p, brief(exact(l)), brief(fixed(one.l)))
			}
		}
	}
}

// TestMixedBlocks: P11.3 to P11.5: blocks of mixed rows, whole, damaged, under another schema, asked for as other numbers of rows.
func TestMixedBlocks(t *testing.T) {
	seen := map[api.Errno]int{}
	right := rightGroups()
	for k, one := range right {
		p, _ := batch.Pack(one.s, one.l)
		n := len(one.l)
		for _, rows := range []int{n, n - 1, n + 1, 1, 64} {
			seen[asUnpacked(t, one.s, p, rows)]++
		}
		other := right[(k+1)%len(right)]
		seen[asUnpacked(t, other.s, p, n)]++
		for i := range uint64(6) {
			m := mixed(uint64(k)<<20 + i)
			damaged := slices.Clone(p)
			damaged[m%uint64(len(p))] ^= byte(1 << (m >> 32 % 8))
			seen[asUnpacked(t, one.s, damaged, n)]++
			seen[asUnpacked(t, one.s, p[:m%uint64(len(p))], n)]++
		}
		if k%20 == 0 {
			asOneNumber(t, one.s, p, n)
		}
	}
	for _, e := range []api.Errno{api.OK, api.ErrLong, api.ErrMany, api.ErrEmpty, api.ErrForm, api.ErrShort, api.ErrUtf} {
		if seen[e] < 20 {
			t.Errorf("only %d were %d: %v", seen[e], e, seen)
		}
	}
}

// TestShortBlocks: P11.3, P11.5: raw blocks of two bytes, and some longer ones, are of at most one number of rows.
func TestShortBlocks(t *testing.T) {
	under := []api.Schema{ints, texts, alone(ofBool), alone(optOf(ofInt)), alone(listOf(ofBool)), of(plain("a", ofBytes), plain("b", ofInt))}
	for _, s := range under {
		for a := range 256 {
			for _, b := range []byte{0, 1, 2, 3, 63, 64, 127, 128, 129, 255} {
				p := []byte{0, byte(a), b}
				taken := 0
				for n := range 4 {
					if asUnpacked(t, s, p, n) == api.OK {
						taken++
					}
				}
				if taken > 1 {
					t.Fatalf("%x under %s", p, columns(s))
				}
			}
		}
	}
	for k := range uint64(200) {
		b := mixedBytes(k, int(k%40))
		for i := range b {
			b[i] %= 4
		}
		for _, s := range under {
			asOneNumber(t, s, raw(string(b)), 0)
		}
	}
}

func FuzzUnpack(f *testing.F) {
	for k, one := range rightGroups()[:8] {
		p, _ := batch.Pack(one.s, one.l)
		f.Add(mixedBytes(uint64(k), 40), p, len(one.l))
	}
	f.Add([]byte{0, 1, 0, 0, 0}, []byte{0, 2, 1, 128, 1}, 3)
	f.Fuzz(func(t *testing.T, under, b []byte, n int) {
		r := source{under}
		s := r.schema()
		if asUnpacked(t, s, b, n) == api.OK {
			asOneNumber(t, s, b, n)
		}
	})
}
