package frame_test

import (
	"bytes"
	"math"
	"slices"
	"strings"
	"testing"

	"gabion/api"
	"gabion/frame"
	"gabion/schema"
	"gabion/stuff"
)

// sameDecode asks what Decode answers, and, where it takes the run, whether Encode makes it again.
func sameDecode(t *testing.T, b []byte, want api.Errno) {
	t.Helper()
	words, wordE := wordDecode(b)
	if wordE != want {
		t.Fatalf("by the words Decode(%.80x) is %d, not %d", b, wordE, want)
	}
	f, e := frame.Decode(b)
	if e != want || exact(f) != exact(words) {
		t.Fatalf("Decode(%.80x): %s, %d, want %s, %d", b, brief(exact(f)), e, brief(exact(words)), want)
	}
	if e != api.OK {
		if exact(f) != exact(api.Frame{}) {
			t.Fatalf("Decode(%.80x): %s beside the error %d", b, brief(exact(f)), e)
		}
		return
	}
	if again, e := frame.Encode(f); e != api.OK || !bytes.Equal(again, fenced(b)) {
		t.Fatalf("Encode of Decode(%.80x): %.80x, %d", b, again, e)
	}
}

// asDecoded is sameDecode with the error that the words tell.
func asDecoded(t *testing.T, b []byte) api.Errno {
	t.Helper()
	_, e := wordDecode(b)
	sameDecode(t, b, e)
	return e
}

// TestDecodeExamples: P12.2: the chapter's.
func TestDecodeExamples(t *testing.T) {
	sameDecode(t, nil, api.ErrShort)
	sameDecode(t, []byte{1}, api.ErrShort)
	sameDecode(t, bytes.Repeat([]byte{1}, 2201), api.ErrLong)
	sameDecode(t, run("\x04"), api.ErrKind)
	sameDecode(t, run("\x02\x80\x00"), api.ErrForm)
	b, _ := frame.Encode(schemaFrame(0, ints))
	sameDecode(t, b[1:len(b)-1], api.OK)
	sameDecode(t, b, api.ErrZero)
	body := withSum("\x01\x00\x01\x01a\x02\x00")
	body[4] ^= 2
	sameDecode(t, stuff.Stuff(body), api.ErrSum)
}

// exactly is a data frame's run of just n bytes, whose Block is fill, again and again.
func exactly(t *testing.T, n int, fill string) []byte {
	t.Helper()
	for size := n; size > 0; size-- {
		if b := run("\x02\x01\x02\x03\x04" + strings.Repeat(fill, size)); len(b) == n {
			return b
		}
	}
	t.Fatalf("no frame has %d bytes", n)
	return nil
}

// TestRunLengths: P12.2: runs of no bytes, of one, of MaxFrame and of one more, whatever they are.
func TestRunLengths(t *testing.T) {
	sameDecode(t, []byte{}, api.ErrShort)
	for c := range 256 {
		want := api.ErrShort
		if c == 0 {
			want = api.ErrZero
		}
		sameDecode(t, []byte{byte(c)}, want)
		sameDecode(t, bytes.Repeat([]byte{byte(c)}, 2201), api.ErrLong)
		sameDecode(t, bytes.Repeat([]byte{byte(c)}, 5000), api.ErrLong)
		asDecoded(t, bytes.Repeat([]byte{byte(c)}, 2200))
	}
	for _, fill := range []string{"\x00", "\x01", "\x00\x01"} {
		for n := 2190; n <= 2210; n++ {
			want := api.OK
			if n > 2200 {
				want = api.ErrLong
			}
			if fill == "\x00\x01" && n%2 == 1 {
				continue // it grows by two
			}
			sameDecode(t, exactly(t, n, fill), want)
		}
	}
	// Too long comes ahead of all that is wrong inside.
	sameDecode(t, append(exactly(t, 2200, "\x00"), 0), api.ErrLong)
	sameDecode(t, append(exactly(t, 2200, "\x00"), 9), api.ErrLong)
	sameDecode(t, append(exactly(t, 2199, "\x00"), 0), api.ErrZero)
	sameDecode(t, append(exactly(t, 2199, "\x00"), 9), api.ErrShort)
	sameDecode(t, run("\x09"+strings.Repeat("x", 2300)), api.ErrLong)
	sameDecode(t, make([]byte, 2200), api.ErrZero)
	sameDecode(t, make([]byte, 2201), api.ErrLong)
	sameDecode(t, make([]byte, 1<<20), api.ErrLong)
}

// TestUnstuffErrors: P12.2: a zero byte in each place, a group that is not ended, a last group of none behind one of 254.
func TestUnstuffErrors(t *testing.T) {
	for _, f := range unlikeFrames() {
		b := run(wordFields(f))
		for i := range b {
			if i > 40 && i < len(b)-40 && i%37 > 0 {
				continue
			}
			broken := slices.Clone(b)
			broken[i] = 0
			sameDecode(t, broken, api.ErrZero)
			sameDecode(t, append(broken, 255), zeroOrLong(broken, 1))
		}
		if len(b) < 2200 {
			sameDecode(t, append(slices.Clone(b), 2), api.ErrShort)
			sameDecode(t, append(slices.Clone(b), 255), api.ErrShort)
			sameDecode(t, append(slices.Clone(b), 0), api.ErrZero)
			sameDecode(t, append(slices.Clone(b), 2, 0), zeroOrLong(b, 2))
		}
	}
	group := append([]byte{255}, bytes.Repeat([]byte{1}, 254)...)
	sameDecode(t, append(slices.Clone(group), 1), api.ErrForm)
	sameDecode(t, slices.Concat([]byte{3, 1, 1}, group, []byte{1}), api.ErrForm)
	sameDecode(t, slices.Concat(group, group, []byte{1}), api.ErrForm)
	sameDecode(t, slices.Concat(group, []byte{1}, group), api.ErrSum)
	sameDecode(t, slices.Concat(group, []byte{1, 1}), api.ErrSum)
	sameDecode(t, group, api.ErrSum)
	// A right frame that ends with a group of 254, and then one of none: not what is stuffed.
	for n := range uint64(4000) {
		b := run("\x02\x01\x02\x03\x04" + noZeros(n, 245))
		if len(b) != 255 || b[0] != 255 {
			continue
		}
		sameDecode(t, b, api.OK)
		sameDecode(t, append(b, 1), api.ErrForm)
		return
	}
	t.Error("no frame of one whole group")
}

// zeroOrLong is the error of a run that holds a zero byte, with so many bytes more behind it.
func zeroOrLong(b []byte, more int) api.Errno {
	if len(b)+more > 2200 {
		return api.ErrLong
	}
	return api.ErrZero
}

// TestShortBodies: P12.2: bodies of at most four bytes, also such that are the check of what is ahead of them; of five bytes.
func TestShortBodies(t *testing.T) {
	for n := range 5 {
		for _, fill := range []byte{0, 1, 2, 3, 4, 255} {
			sameDecode(t, stuff.Stuff(bytes.Repeat([]byte{fill}, n)), api.ErrShort)
		}
		for k := range uint64(50) {
			sameDecode(t, stuff.Stuff(mixedBytes(k, n)), api.ErrShort)
		}
	}
	sameDecode(t, run(""), api.ErrShort) // the check of nothing is 0
	for c := range 256 {
		want := api.ErrKind
		if c >= 1 && c <= 3 {
			want = api.ErrForm
		}
		b := string([]byte{byte(c)})
		sameDecode(t, run(b), want)
		for i := range 5 {
			body := withSum(b)
			body[i]++
			sameDecode(t, stuff.Stuff(body), api.ErrSum)
		}
		sameDecode(t, stuff.Stuff([]byte(b+"\x00\x00\x00\x00")), api.ErrSum)
	}
}

// TestSums: P12.2: each bit of a body and of its check changed; the check's bytes in another order, and of other bytes.
func TestSums(t *testing.T) {
	for _, f := range unlikeFrames() {
		body := withSum(wordFields(f))
		for bit := range 8 * len(body) {
			broken := slices.Clone(body)
			broken[bit/8] ^= 1 << (bit % 8)
			asBroken(t, broken)
		}
		turned := slices.Clone(body)
		slices.Reverse(turned[len(body)-4:])
		asBroken(t, turned)
		shifted := slices.Concat(body[len(body)-4:], body[:len(body)-4])
		asBroken(t, shifted)
		sameDecode(t, stuff.Stuff(body), api.OK)
		asBroken(t, append(slices.Clone(body), 0))
		asBroken(t, body[:len(body)-1])
		asBroken(t, body[1:])
	}
}

// asBroken asks for ErrSum of a body, or ErrLong, if it has become too long.
func asBroken(t *testing.T, body []byte) {
	t.Helper()
	b := stuff.Stuff(body)
	want := api.ErrSum
	if len(b) > 2200 {
		want = api.ErrLong
	}
	sameDecode(t, b, want)
}

// TestFirstBytes: P12.2: each first byte, with its right check, ahead of fields of each kind.
func TestFirstBytes(t *testing.T) {
	for _, f := range unlikeFrames() {
		b := []byte(wordFields(f))
		for c := range 256 {
			b[0] = byte(c)
			if c == 0 || c > 3 {
				if len(run(string(b))) <= 2200 {
					sameDecode(t, run(string(b)), api.ErrKind)
				}
				continue
			}
			asDecoded(t, run(string(b)))
		}
	}
}

// place is where a number stands in the fields: what is ahead of it and behind it, and the least and the greatest one that is taken there.
type place struct {
	ahead, behind string
	least, most   uint64
}

// places are all kinds of numbers in all kinds of frames; those of entries in the first one, the last one and one between.
func places() []place {
	const small, large = 1<<31 - 1, 1<<40 - 1
	l := []place{
		{"\x01", "\x01\x01a\x02\x00", 0, small},
		{"\x02", "\x00\x00\x01x", 0, small}, {"\x02\x00", "\x00\x01x", 0, large}, {"\x02\x00\x00", "\x01x", 0, large}, {"\x02\x00\x00\x00", "x", 1, 64}, {"\x02\x05\x80\x01\x07", "", 1, 64},
		{"\x03", "\x00\x00\x00", 0, large}, {"\x03\x00", "\x00\x00", 0, large}, {"\x03\x00\x00", "\x00", 0, large}, {"\x03\x80\x01\x00", "\x01\x05\x06\x07", 0, large}, {"\x03\x00\x00\x00", "", 0, 0},
	}
	for _, n := range []int{1, 2, 3, 64} {
		for at := range n {
			if at > 1 && at < n-1 {
				continue
			}
			ahead := "\x03\x01\x02\x03" + leb128(uint64(n)) + strings.Repeat("\x04\x05\x06", at)
			behind := strings.Repeat("\x04\x05\x06", n-at-1)
			l = append(l, place{ahead, "\x05\x06" + behind, 0, large}, place{ahead + "\x04", "\x06" + behind, 0, large}, place{ahead + "\x04\x05", behind, 0, large})
		}
	}
	return l
}

// TestNumbersRead: P12.2: numbers about their limits, in each place.
func TestNumbersRead(t *testing.T) {
	for _, p := range places() {
		numbers := []uint64{0, 1, 2, 63, 64, 65, 66, 127, 128, 255, 256, 1<<31 - 1, 1 << 31, 1<<31 + 1, 1<<32 - 1, 1 << 32, 1<<32 + 1, 1<<40 - 1, 1 << 40, 1<<40 + 1, 1<<63 - 1, 1 << 63, 1<<63 + 1, math.MaxUint64 - 1, math.MaxUint64}
		for bit := range 64 {
			numbers = append(numbers, 1<<bit, 1<<bit-1)
		}
		for _, n := range numbers {
			want := api.OK
			if n < p.least || n > p.most {
				want = api.ErrForm
			}
			sameDecode(t, run(p.ahead+leb128(n)+p.behind), want)
		}
	}
}

// TestNoNumbers: P12.2: numbers that are longer than they need be, that end within, that are too great for 64 bits, in each place.
func TestNoNumbers(t *testing.T) {
	for _, p := range places() {
		for _, b := range []string{"\x80\x00", "\x81\x00", "\xff\x00", "\x80\x80\x00", "\x81\x80\x80\x00", strings.Repeat("\x80", 9) + "\x00", strings.Repeat("\x80", 10), strings.Repeat("\xff", 9) + "\x02", strings.Repeat("\xff", 9) + "\x7f", strings.Repeat("\xff", 10), strings.Repeat("\x80", 11) + "\x01"} {
			sameDecode(t, run(p.ahead+b+p.behind), api.ErrForm)
			sameDecode(t, run(p.ahead+b), api.ErrForm)
		}
		// The fields end within the number, or ahead of it.
		for n := range 12 {
			sameDecode(t, run(p.ahead+strings.Repeat("\x80", n)), api.ErrForm)
			sameDecode(t, run(p.ahead+strings.Repeat("\xff", n)), api.ErrForm)
			sameDecode(t, run(p.ahead+strings.Repeat("\x81", n)), api.ErrForm)
		}
	}
}

// TestCheckIsNoNumber: P12.2: where fields end early, the check's bytes are not read for them, although they would be numbers there.
func TestCheckIsNoNumber(t *testing.T) {
	rows, none, within := 0, 0, 0
	for k := range int64(1 << 14) {
		n := leb128(uint64(k))
		data, index, cut := "\x02"+n+"\x00\x00", "\x03"+n+"\x00\x00", "\x02\x00\x00"+n+"\x80"
		if sum := withSum(data)[len(data)]; sum >= 1 && sum <= 64 {
			rows++
			sameDecode(t, run(data), api.ErrForm)
		}
		if sum := withSum(index)[len(index)]; sum == 0 {
			none++
			sameDecode(t, run(index), api.ErrForm)
		}
		if sum := withSum(cut)[len(cut)]; sum < 128 {
			within++
			sameDecode(t, run(cut), api.ErrForm)
		}
	}
	if rows < 100 || none < 10 || within < 100 {
		t.Errorf("only %d, %d, %d", rows, none, within)
	}
	// The check of a data frame is not in its Block, that of a schema frame not in its schema.
	f, e := frame.Decode(run("\x02\x00\x00\x00\x01"))
	if e != api.OK || len(f.Block) != 0 {
		t.Errorf("a Block of nothing: %x, %d", f.Block, e)
	}
	sameDecode(t, run("\x01\x00\x01\x01a\x02"), api.ErrShort)
	sameDecode(t, run("\x01\x00\x01\x01a\x05\x01\x04"), api.ErrShort)
}

// TestLeftBehind: P12.2: bytes behind an index's last entry; fewer entries than it says, and more.
func TestLeftBehind(t *testing.T) {
	for n := range 66 {
		for have := range 67 {
			want := api.ErrForm
			if n == have && n <= 64 {
				want = api.OK
			}
			sameDecode(t, run("\x03\x00\x00\x00"+leb128(uint64(n))+strings.Repeat("\x07\x08\x09", have)), want)
		}
	}
	for c := range 256 {
		for _, n := range []int{0, 1, 2, 64} {
			b := "\x03\x00\x00\x00" + leb128(uint64(n)) + strings.Repeat("\x00\x00\x00", n) + string([]byte{byte(c)})
			sameDecode(t, run(b), api.ErrForm)
			sameDecode(t, run(b+"\x00\x00\x00"), api.ErrForm)
		}
	}
	for _, n := range []uint64{65, 66, 127, 128, 1 << 20, 1 << 32, 1 << 63, math.MaxUint64} {
		sameDecode(t, run("\x03\x00\x00\x00"+leb128(n)), api.ErrForm)
		sameDecode(t, run("\x03\x00\x00\x00"+leb128(n)+strings.Repeat("\x00", 200)), api.ErrForm)
		sameDecode(t, run("\x03\x00\x00\x00"+leb128(n)+strings.Repeat("\x00", 3*65)), api.ErrForm)
	}
}

// TestSchemaBytes: P12.2: what schema.Decode refuses, in each of its ways; its number's error comes first.
func TestSchemaBytes(t *testing.T) {
	long, _ := schema.Encode(longSchema(1024))
	for _, one := range []struct {
		b string
		e api.Errno
	}{
		{"", api.ErrShort}, {"\x00", api.ErrEmpty}, {"\x11", api.ErrMany}, {"\x80\x00", api.ErrForm}, {"\x80", api.ErrShort}, {"\x01\x00", api.ErrName}, {"\x01\x01", api.ErrShort}, {"\x01\x01A", api.ErrName}, {"\x01\x01a", api.ErrShort}, {"\x01\x01a\x08", api.ErrKind}, {"\x01\x01a\x02", api.ErrShort}, {"\x01\x01a\x02\x02", api.ErrForm}, {"\x01\x01a\x02\x00\x00", api.ErrForm},
		{"\x02\x01a\x02\x00\x01a\x02\x00", api.ErrTwice}, {"\x01\x01a\x07\x07\x07\x07", api.ErrDeep}, {"\x01\x01a\x03\x01" + strings.Repeat("\xff", 8), api.ErrForm}, {"\x01\x01a\x04\x01\x01\xff", api.ErrUtf}, {"\x01\x01a\x04\x01\x81\x08", api.ErrLong}, {"\x01\x01a\x07\x01\x01\x81\x02", api.ErrMany},
		{strings.Repeat("\x01", 1025), api.ErrLong}, {string(long) + "\x00", api.ErrLong}, {string(long), api.OK}, {"\x01\x01a\x02\x00", api.OK}, {"\x02\x01a\x02\x00\x01b\x04\x01\x00", api.OK},
	} {
		if _, e := schema.Decode([]byte(one.b)); e != one.e {
			t.Fatalf("schema.Decode(%.40x): %d, not %d", one.b, e, one.e)
		}
		for _, n := range []uint64{0, 1, 127, 128, 300, 1<<31 - 1} {
			sameDecode(t, run("\x01"+leb128(n)+one.b), one.e)
		}
		for _, n := range []uint64{1 << 31, 1 << 40, math.MaxUint64} {
			sameDecode(t, run("\x01"+leb128(n)+one.b), api.ErrForm)
		}
		sameDecode(t, run("\x01\x80\x00"+one.b), api.ErrForm)
		sameDecode(t, run("\x01"+strings.Repeat("\xff", 10)+one.b), api.ErrForm)
	}
	sameDecode(t, run("\x01"), api.ErrForm)
	sameDecode(t, run("\x01\x80"), api.ErrForm)
	sameDecode(t, run("\x01\x00"), api.ErrShort)
}

// TestCut: P12.2: fields that end early, each with its right check.
func TestCut(t *testing.T) {
	for _, f := range unlikeFrames() {
		b := wordFields(f)
		for end := range b {
			e := asDecoded(t, run(b[:end]))
			if f.Kind == 3 && e == api.OK {
				t.Fatalf("an index is cut at %d of %d", end, len(b))
			}
		}
		sameDecode(t, run(b), api.OK)
	}
}

// TestOtherBytes: P12.2: each byte in each place, with its right check.
func TestOtherBytes(t *testing.T) {
	seen := map[api.Errno]int{}
	for _, f := range unlikeFrames() {
		b := []byte(wordFields(f))
		reach := 120
		if len(b) > 150 {
			reach = 8 // of the long ones the numbers ahead, and little behind them
		}
		for i := range min(len(b), reach) {
			kept := b[i]
			for c := range 256 {
				b[i] = byte(c)
				seen[asDecoded(t, run(string(b)))]++
			}
			b[i] = kept
		}
	}
	for _, e := range []api.Errno{api.OK, api.ErrMany, api.ErrEmpty, api.ErrForm, api.ErrShort, api.ErrKind, api.ErrName} {
		if seen[e] < 4 {
			t.Errorf("only %d were %d: %v", seen[e], e, seen)
		}
	}
}

// TestMixedRuns: P12.2, P12.4: mixed frames, whole, changed with their right check, and any bytes.
func TestMixedRuns(t *testing.T) {
	seen := map[api.Errno]int{}
	for k, f := range rightFrames() {
		b := []byte(wordFields(f))
		seen[asDecoded(t, run(string(b)))]++
		for i := range uint64(6) {
			m := mixed(uint64(k)<<20 + i)
			changed := slices.Clone(b)
			changed[m%uint64(min(len(b), 60))] = byte(m >> 32)
			seen[asDecoded(t, run(string(changed)))]++
			damaged := run(string(b))
			damaged[m%uint64(len(damaged))] = byte(m >> 40)
			seen[asDecoded(t, damaged)]++
			seen[asDecoded(t, damaged[:m%uint64(len(damaged))])]++
		}
		any := mixedBytes(uint64(k)+1<<30, k%80)
		seen[asDecoded(t, any)]++
		for i := range any {
			any[i] %= 4
		}
		seen[asDecoded(t, run(string(any)))]++
	}
	for _, e := range []api.Errno{api.OK, api.ErrForm, api.ErrShort, api.ErrZero, api.ErrKind, api.ErrSum} {
		if seen[e] < 50 {
			t.Errorf("only %d were %d: %v", seen[e], e, seen)
		}
	}
}

func FuzzDecode(f *testing.F) {
	for _, one := range unlikeFrames() {
		f.Add([]byte(wordFields(one)))
	}
	f.Fuzz(func(t *testing.T, b []byte) {
		asDecoded(t, b)
		asDecoded(t, stuff.Stuff(b))
		asDecoded(t, run(string(b)))
	})
}
