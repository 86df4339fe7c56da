package frame_test

import (
	"bytes"
	"encoding/hex"
	"math"
	"slices"
	"strings"
	"testing"

	"gabion/api"
	"gabion/frame"
	"gabion/stuff"
)

// sameEncode asks what Encode answers, and, where it makes bytes, all that follows.
func sameEncode(t *testing.T, f api.Frame, want api.Errno) {
	t.Helper()
	words, wordE := wordEncode(f)
	if wordE != want {
		t.Fatalf("by the words Encode(%s) is %d, not %d", brief(exact(f)), wordE, want)
	}
	b, e := frame.Encode(f)
	if e != want || !bytes.Equal(b, words) {
		t.Fatalf("Encode(%s): %.80x, %d, want %.80x, %d", brief(exact(f)), b, e, words, want)
	}
	if e != api.OK {
		if len(b) != 0 {
			t.Fatalf("Encode(%s): %d bytes beside the error %d", brief(exact(f)), len(b), e)
		}
		return
	}
	inner := b[1 : len(b)-1]
	if b[0] != 0 || b[len(b)-1] != 0 || bytes.IndexByte(inner, 0) >= 0 || len(inner) > 2200 || len(inner) == 0 {
		t.Fatalf("Encode(%s): fences at the wrong places, or too long: %x", brief(exact(f)), b)
	}
	back, e := frame.Decode(inner)
	if e != api.OK || exact(back) != fixed(bare(f)) || !frame.Same(back, f) || !frame.Same(f, back) {
		t.Fatalf("Decode of Encode(%s): %s, %d", brief(exact(f)), brief(exact(back)), e)
	}
}

// asEncoded is sameEncode with the error that the words tell.
func asEncoded(t *testing.T, f api.Frame) api.Errno {
	t.Helper()
	_, e := wordEncode(f)
	sameEncode(t, f, e)
	return e
}

// TestEncodeExamples: P12.1: the chapter's.
func TestEncodeExamples(t *testing.T) {
	first := schemaFrame(0, ints)
	sameEncode(t, first, api.OK)
	b, _ := frame.Encode(first)
	body, e := stuff.Unstuff(b[1 : len(b)-1])
	if e != api.OK || len(b) > 17 || !bytes.Equal(body, withSum("\x01\x00\x01\x01a\x02\x00")) {
		t.Errorf("schema frame 0 of a int: %x, its body %x", b, body)
	}
	sameEncode(t, dataFrame(0, 0, 0, 0, ""), api.ErrRange)
	sameEncode(t, dataFrame(0, 1<<40, 0, 1, ""), api.ErrRange)
	sameEncode(t, dataFrame(0, 0, 0, 1, strings.Repeat("x", 2300)), api.ErrLong)
	sameEncode(t, dataFrame(0, 0, 0, 1, strings.Repeat("\x00", 2300)), api.ErrLong)
	sameEncode(t, indexFrame(0, 0, 0, make([]api.Entry, 65)...), api.ErrMany)
	sameEncode(t, api.Frame{Kind: 4}, api.ErrKind)
}

// TestEncodeBytes: P12.1: bytes written out, with their checks, fences and groups.
func TestEncodeBytes(t *testing.T) {
	for _, one := range []struct {
		f    api.Frame
		want string
	}{
		{schemaFrame(0, ints), "0002010501016102058a59e4c500"},
		{schemaFrame(300, ints), "000801ac020101610205a64ab49a00"},
		{schemaFrame(maxNumber-1, ints), "000b01ffffffff0701016102055d44865500"},
		{dataFrame(0, 0, 0, 1, ""), "00020201010601eb94e5cb00"},
		{dataFrame(1, 300, 5, 2, "\x00\x02\x01"), "00070201ac02050207020148314eee00"},
		{dataFrame(1, 1, 1, 64, "abc"), "000d020101014061626358e93d2600"},
		{dataFrame(maxNumber-1, maxSeq-1, maxSeq-2, 63, "\x00"), "001402ffffffff07ffffffffff1ffeffffffff1f3f048fe0410100"},
		{indexFrame(0, 0, 0), "00020301010105cd8d828100"},
		{indexFrame(900, 2, 7, entry(17, 0, 0)), "0008038407020701110105fc4ee29700"},
		{indexFrame(1, 2, 3, entry(4, 5, 6), entry(128, 255, 256)), "001303010203020405068001ff018002a16f265e00"},
	} {
		if b, e := frame.Encode(one.f); e != api.OK || hex.EncodeToString(b) != one.want {
			t.Errorf("Encode(%s): %x, %d, want %s", exact(one.f), b, e, one.want)
		}
		sameEncode(t, one.f, api.OK)
	}
}

// TestKinds: P12.1: each kind, those about them, and such whose lowest byte is a kind's.
func TestKinds(t *testing.T) {
	right := api.Frame{Number: 1, Schema: ints, Seq: 2, First: 3, Rows: 4, Block: []byte("x"), Index: api.Index{At: 5, Frames: 6, Rows: 7, Entries: []api.Entry{{}}}}
	wrong := api.Frame{Number: -1, Seq: -1, First: -1, Rows: -1, Block: make([]byte, 3000), Index: api.Index{At: -1, Entries: make([]api.Entry, 65)}}
	for k := -300; k <= 600; k++ {
		want := api.ErrKind
		if k >= 1 && k <= 3 {
			want = api.OK
		}
		right.Kind = k
		sameEncode(t, right, want)
	}
	for _, k := range []int{-1, 0, 4, 257, 1<<32 + 1, 1<<32 + 2, 1<<32 + 3, -1 << 32, math.MaxInt, math.MinInt, math.MinInt + 1, math.MinInt + 2} {
		right.Kind, wrong.Kind = k, k
		sameEncode(t, right, api.ErrKind)
		sameEncode(t, wrong, api.ErrKind)
		sameEncode(t, api.Frame{Kind: k}, api.ErrKind)
	}
	for k := 1; k <= 3; k++ {
		wrong.Kind = k
		sameEncode(t, wrong, api.ErrRange)
	}
	sameEncode(t, api.Frame{Kind: 1}, api.ErrEmpty)
	sameEncode(t, api.Frame{Kind: 2}, api.ErrRange)
	sameEncode(t, api.Frame{Kind: 3}, api.OK)
}

// about are numbers about a limit, and such that are far from it; those below it, and not below 0, may be.
func about(limit int64) []int64 {
	l := []int64{-1, 0, 1, 127, 128, limit - 2, limit - 1, limit, limit + 1, 2 * limit, -limit, 1 << 62, math.MaxInt64, math.MaxInt64 - 1, math.MinInt64, math.MinInt64 + 1}
	return append(l, someNumbers...)
}

// rangeError is ErrRange, unless a number is 0 to one fewer than its limit.
func rangeError(n, limit int64) api.Errno {
	if n >= 0 && n < limit {
		return api.OK
	}
	return api.ErrRange
}

// TestNumbers: P12.1: Number, Seq and First about their limits.
func TestNumbers(t *testing.T) {
	for _, n := range about(maxNumber) {
		sameEncode(t, schemaFrame(n, ints), rangeError(n, maxNumber))
		sameEncode(t, dataFrame(n, 0, 0, 1, "x"), rangeError(n, maxNumber))
		sameEncode(t, dataFrame(n, maxSeq-1, maxSeq-1, 64, ""), rangeError(n, maxNumber))
	}
	for _, n := range about(maxSeq) {
		sameEncode(t, dataFrame(0, n, 0, 1, "x"), rangeError(n, maxSeq))
		sameEncode(t, dataFrame(0, 0, n, 1, "x"), rangeError(n, maxSeq))
		sameEncode(t, dataFrame(maxNumber-1, n, n, 64, ""), rangeError(n, maxSeq))
	}
	for bit := range 64 {
		n := int64(uint64(1) << bit)
		sameEncode(t, schemaFrame(n, ints), rangeError(n, maxNumber))
		sameEncode(t, dataFrame(n, 0, 0, 1, ""), rangeError(n, maxNumber))
		sameEncode(t, dataFrame(0, n, 0, 1, ""), rangeError(n, maxSeq))
		sameEncode(t, dataFrame(0, 0, n, 1, ""), rangeError(n, maxSeq))
	}
}

// TestRows: P12.1: Rows of a data frame.
func TestRows(t *testing.T) {
	for n := -70; n <= 200; n++ {
		sameEncode(t, dataFrame(0, 0, 0, n, "x"), rangeError(int64(n)-1, 64))
	}
	for _, n := range []int{1<<8 + 1, 1<<32 + 1, -1 << 32, math.MaxInt, math.MinInt, math.MinInt + 1} {
		sameEncode(t, dataFrame(0, 0, 0, n, "x"), api.ErrRange)
	}
}

// TestIndexNumbers: P12.1: At, Frames and Rows of an index, with no entries, with right ones, and with wrong ones behind.
func TestIndexNumbers(t *testing.T) {
	for _, n := range about(maxSeq) {
		want := rangeError(n, maxSeq)
		for _, l := range [][]api.Entry{nil, {{}}, make([]api.Entry, 64)} {
			sameEncode(t, indexFrame(n, 0, 0, l...), want)
			sameEncode(t, indexFrame(0, n, 0, l...), want)
			sameEncode(t, indexFrame(0, 0, n, l...), want)
			sameEncode(t, indexFrame(maxSeq-1, maxSeq-1, n, l...), want)
		}
		many := want
		if many == api.OK {
			many = api.ErrMany
		}
		for _, l := range [][]api.Entry{make([]api.Entry, 65), slices.Repeat([]api.Entry{entry(-1, -1, -1)}, 65), make([]api.Entry, 1000)} {
			sameEncode(t, indexFrame(n, 0, 0, l...), many)
			sameEncode(t, indexFrame(0, n, 0, l...), many)
			sameEncode(t, indexFrame(0, 0, n, l...), many)
		}
	}
}

// TestEntryNumbers: P12.1: At, Row and Schema of an entry, of the first one, the last one, one between, and of several.
func TestEntryNumbers(t *testing.T) {
	for _, n := range about(maxSeq) {
		want := rangeError(n, maxSeq)
		for _, count := range []int{1, 2, 3, 63, 64, 65} {
			if count == 65 {
				want = api.ErrMany
			}
			for at := range count {
				if at > 2 && at < count-2 && at != 31 {
					continue
				}
				for k := range 3 {
					l := make([]api.Entry, count)
					for i := range l {
						l[i] = entry(int64(i), maxSeq-1, 5)
					}
					set(&l[at], k, n)
					sameEncode(t, indexFrame(1, 2, 3, l...), want)
					set(&l[(at+1)%count], (k+1)%3, n)
					sameEncode(t, indexFrame(1, 2, 3, l...), want)
				}
			}
		}
	}
}

// set gives a field of an entry another number.
func set(e *api.Entry, field int, n int64) {
	*[]*int64{&e.At, &e.Row, &e.Schema}[field] = n
}

// TestEntries: P12.1: how many entries an index has.
func TestEntries(t *testing.T) {
	full := entry(maxSeq-1, maxSeq-1, maxSeq-1)
	for n := range 140 {
		want := api.OK
		if n > 64 {
			want = api.ErrMany
		}
		sameEncode(t, indexFrame(0, 0, 0, make([]api.Entry, n)...), want)
		sameEncode(t, indexFrame(maxSeq-1, maxSeq-1, maxSeq-1, slices.Repeat([]api.Entry{full}, n)...), want)
	}
	sameEncode(t, indexFrame(0, 0, 0, []api.Entry{}...), api.OK)
	sameEncode(t, indexFrame(0, 0, 0, make([]api.Entry, 1<<16)...), api.ErrMany)
}

// TestSchemas: P12.1: schema.Check's error, behind a number that may not be.
func TestSchemas(t *testing.T) {
	for _, one := range wrongSchemas() {
		for _, n := range about(maxNumber) {
			want := rangeError(n, maxNumber)
			if want == api.OK {
				want = one.e
			}
			sameEncode(t, schemaFrame(n, one.s), want)
		}
		// Of other frames the schema does not count.
		f := dataFrame(0, 0, 0, 1, "x")
		f.Schema = one.s
		sameEncode(t, f, api.OK)
		f = indexFrame(0, 0, 0)
		f.Schema = one.s
		sameEncode(t, f, api.OK)
	}
	for n := 200; n <= 1030; n++ {
		want := api.OK
		if n > 1024 {
			want = api.ErrLong
		}
		sameEncode(t, schemaFrame(maxNumber-1, longSchema(n)), want)
	}
	for n := 1; n <= 16; n++ {
		sameEncode(t, schemaFrame(int64(n), wide(n)), api.OK)
	}
}

// TestNaNDefaults: P12.1, R6: of every NaN of a default the bytes of the one; -0 is not 0.
func TestNaNDefaults(t *testing.T) {
	want, _ := frame.Encode(schemaFrame(0, of(with("f", ofFloat, nan(theNaN)))))
	for _, bits := range nanBits {
		f := schemaFrame(0, of(with("f", ofFloat, nan(bits))))
		sameEncode(t, f, api.OK)
		if b, e := frame.Encode(f); e != api.OK || !bytes.Equal(b, want) {
			t.Errorf("Encode with the NaN %x: %x, %d", bits, b, e)
		}
		b, _ := frame.Encode(f)
		back, _ := frame.Decode(b[1 : len(b)-1])
		if got := math.Float64bits(back.Schema.Columns[0].Default.Float); got != theNaN {
			t.Errorf("Decode with the NaN %x: %x", bits, got)
		}
	}
	sameEncode(t, schemaFrame(0, of(with("f", ofFloat, float(minusZero)))), api.OK)
	plus, _ := frame.Encode(schemaFrame(0, of(with("f", ofFloat, float(0)))))
	if minus, _ := frame.Encode(schemaFrame(0, of(with("f", ofFloat, float(minusZero))))); bytes.Equal(plus, minus) {
		t.Errorf("0 and -0 have the same bytes: %x", plus)
	}
}

// TestBlocks: P12.1, P12.4: Blocks of no bytes, and such whose frame has just MaxFrame bytes, one fewer and one more.
func TestBlocks(t *testing.T) {
	sameEncode(t, api.Frame{Kind: 2, Rows: 1}, api.OK)
	sameEncode(t, api.Frame{Kind: 2, Rows: 1, Block: []byte{}}, api.OK)
	fills := map[string]func(n int) string{
		"zeros":    func(n int) string { return strings.Repeat("\x00", n) },
		"ones":     func(n int) string { return strings.Repeat("\x01", n) },
		"no zeros": func(n int) string { return noZeros(uint64(n), n) },
		"mixed":    func(n int) string { return string(mixedBytes(9, n)) },
		"groups":   func(n int) string { return strings.Repeat(strings.Repeat("\x01", 254)+"\x00", 10)[:n] },
	}
	for name, fill := range fills {
		seen := map[int]int{}
		for n := range 2260 {
			if n > 20 && n < 2150 && n%127 > 2 {
				continue
			}
			for _, f := range []api.Frame{dataFrame(0, 0, 0, 1, fill(n)), dataFrame(7, 7, 7, 7, fill(n)), dataFrame(maxNumber-1, maxSeq-1, maxSeq-1, 64, fill(n))} {
				size := len(run(wordFields(f)))
				seen[size]++
				want := api.OK
				if size > 2200 {
					want = api.ErrLong
				}
				sameEncode(t, f, want)
			}
		}
		for size := 2199; size <= 2201; size++ {
			if seen[size] == 0 {
				t.Errorf("no frame of %s has %d bytes", name, size)
			}
		}
	}
	for _, n := range []int{2200, 2201, 1 << 16, 1 << 22} {
		sameEncode(t, dataFrame(0, 0, 0, 1, strings.Repeat("\x00", n)), api.ErrLong)
		sameEncode(t, dataFrame(0, 0, 0, 65, strings.Repeat("\x00", n)), api.ErrRange)
		sameEncode(t, dataFrame(-1, 0, 0, 1, strings.Repeat("\x00", n)), api.ErrRange)
		sameEncode(t, dataFrame(0, maxSeq, 0, 1, strings.Repeat("\x00", n)), api.ErrRange)
	}
}

// TestFieldsThatDontCount: P12.1, P12.2: set or not, right or wrong, they change nothing, and Decode tells none of them.
func TestFieldsThatDontCount(t *testing.T) {
	others := []api.Frame{
		{Number: 9, Schema: ints, Seq: 9, First: 9, Rows: 9, Block: []byte("room"), Index: api.Index{At: 9, Frames: 9, Rows: 9, Entries: []api.Entry{{At: 9, Row: 9, Schema: 9}}}},
		{Number: -1, Seq: maxSeq, First: -1, Rows: 65, Block: make([]byte, 3000), Index: api.Index{At: -1, Frames: maxSeq, Rows: -1, Entries: make([]api.Entry, 65)}},
	}
	for _, f := range unlikeFrames() {
		sameEncode(t, f, api.OK)
		want, _ := frame.Encode(f)
		for _, g := range others {
			g.Kind = f.Kind
			if f.Kind != 3 {
				g.Number = f.Number
			}
			switch f.Kind {
			case 1:
				g.Schema = f.Schema
			case 2:
				g.Seq, g.First, g.Rows, g.Block = f.Seq, f.First, f.Rows, f.Block
			case 3:
				g.Index = f.Index
			}
			sameEncode(t, g, api.OK)
			if b, _ := frame.Encode(g); !bytes.Equal(b, want) {
				t.Fatalf("Encode(%s): %x, want %x", brief(exact(g)), b, want)
			}
		}
	}
}

// TestMixedFrames: P12.1, P12.4: mixed frames, right ones and wrong ones.
func TestMixedFrames(t *testing.T) {
	seen := map[api.Errno]int{}
	for _, f := range manyFrames() {
		seen[asEncoded(t, f)]++
	}
	if seen[api.OK] < 2000 {
		t.Errorf("only %d were right: %v", seen[api.OK], seen)
	}
	for _, e := range []api.Errno{api.ErrLong, api.ErrMany, api.ErrEmpty, api.ErrRange, api.ErrType, api.ErrKind, api.ErrName, api.ErrTwice} {
		if seen[e] < 3 {
			t.Errorf("only %d were %d: %v", seen[e], e, seen)
		}
	}
}

// TestUnlikeFramesUnlikeBytes: P12.4: as Decode takes the bytes back, no two that are not the same have the same ones.
func TestUnlikeFramesUnlikeBytes(t *testing.T) {
	seen := map[string]api.Frame{}
	for _, f := range slices.Concat(unlikeFrames(), rightFrames()) {
		b, _ := frame.Encode(f)
		if g, there := seen[string(b)]; there && !frame.Same(f, g) {
			t.Fatalf("%x is %s and %s", b, brief(exact(f)), brief(exact(g)))
		}
		seen[string(b)] = f
	}
}

func FuzzEncode(f *testing.F) {
	for k := range uint64(8) {
		f.Add(mixedBytes(k, 300))
	}
	f.Fuzz(func(t *testing.T, b []byte) {
		r := source{b}
		asEncoded(t, r.frame())
	})
}
