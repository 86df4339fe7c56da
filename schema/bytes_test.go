package schema_test

import (
	"bytes"
	"encoding/binary"
	"math"
	"slices"
	"strings"
	"testing"

	"gabion/api"
	"gabion/leb"
	"gabion/schema"
)

// sameEncode asks what Encode answers, and, where it makes bytes, whether Decode takes them.
func sameEncode(t *testing.T, s api.Schema) {
	t.Helper()
	b, e := schema.Encode(s)
	want := wordCheck(s)
	if e != want {
		t.Fatalf("Encode(%.300s): %d, want %d", exact(s), e, want)
	}
	if e != api.OK {
		if len(b) != 0 {
			t.Fatalf("Encode(%.300s): %x beside the error %d", exact(s), b, e)
		}
		return
	}
	if !bytes.Equal(b, wordBytes(s)) {
		t.Fatalf("Encode(%.300s): %x, want %x", exact(s), b, wordBytes(s))
	}
	if len(b) > 1024 {
		t.Fatalf("Encode(%.300s): %d bytes", exact(s), len(b))
	}
	back, e := schema.Decode(b)
	if e != api.OK || exact(back) != fixed(s) || !schema.Same(back, s) {
		t.Fatalf("Decode(%x): %.300s, %d, want %.300s", b, exact(back), e, fixed(s))
	}
}

// sameDecode asks what Decode answers, and, where it takes the bytes, whether Encode makes them again.
func sameDecode(t *testing.T, b string, want api.Errno) {
	t.Helper()
	s, e := schema.Decode([]byte(b))
	words, wordE := wordDecode([]byte(b))
	if wordE != want {
		t.Fatalf("by the words Decode(%.80x) is %d, not %d", b, wordE, want)
	}
	if e != want || exact(s) != exact(words) {
		t.Fatalf("Decode(%.80x): %.300s, %d, want %.300s, %d", b, exact(s), e, exact(words), want)
	}
	if e != api.OK {
		if len(s.Columns) != 0 {
			t.Fatalf("Decode(%.80x): %d columns beside the error %d", b, len(s.Columns), e)
		}
		return
	}
	again, e := schema.Encode(s)
	if e != api.OK || string(again) != b {
		t.Fatalf("Encode of Decode(%.80x): %.80x, %d", b, again, e)
	}
}

// asTheWords is sameDecode with the error that the words tell.
func asTheWords(t *testing.T, b []byte) {
	t.Helper()
	_, e := wordDecode(b)
	sameDecode(t, string(b), e)
}

// TestEncode: P7.6: bytes of each kind of type and default, written out.
func TestEncode(t *testing.T) {
	for _, one := range []struct {
		c    api.Column
		want string
	}{
		{plain("a", ofBool), "\x01\x00"}, {plain("a", ofInt), "\x02\x00"}, {plain("a", ofFloat), "\x03\x00"}, {plain("a", ofText), "\x04\x00"}, {plain("a", ofBytes), "\x05\x00"}, {plain("a", optOf(ofInt)), "\x06\x02\x00"}, {plain("a", listOf(ofText)), "\x07\x04\x00"},
		{plain("a", listOf(optOf(listOf(ofBytes)))), "\x07\x06\x07\x05\x00"}, {plain("a", within(3, api.Opt, ofBool)), "\x06\x06\x06\x01\x00"},
		{with("a", ofBool, boolean(0)), "\x01\x01\x00"}, {with("a", ofBool, boolean(1)), "\x01\x01\x01"},
		{with("a", ofInt, number(0)), "\x02\x01\x00"}, {with("a", ofInt, number(-1)), "\x02\x01\x01"}, {with("a", ofInt, number(1)), "\x02\x01\x02"}, {with("a", ofInt, number(-64)), "\x02\x01\x7f"}, {with("a", ofInt, number(64)), "\x02\x01\x80\x01"},
		{with("a", ofInt, number(math.MinInt64)), "\x02\x01\xff\xff\xff\xff\xff\xff\xff\xff\xff\x01"}, {with("a", ofInt, number(math.MaxInt64)), "\x02\x01\xfe\xff\xff\xff\xff\xff\xff\xff\xff\x01"},
		{with("a", ofFloat, float(0)), "\x03\x01\x00\x00\x00\x00\x00\x00\x00\x00"}, {with("a", ofFloat, float(minusZero)), "\x03\x01\x00\x00\x00\x00\x00\x00\x00\x80"}, {with("a", ofFloat, float(1)), "\x03\x01\x00\x00\x00\x00\x00\x00\xf0\x3f"},
		{with("a", ofFloat, float(math.Float64frombits(0x0102030405060708))), "\x03\x01\x08\x07\x06\x05\x04\x03\x02\x01"}, {with("a", ofFloat, nan(0xffffffffffffffff)), "\x03\x01\x00\x00\x00\x00\x00\x00\xf8\x7f"},
		{with("a", ofText, text("")), "\x04\x01\x00"}, {with("a", ofText, text("h\u00e9")), "\x04\x01\x03h\xc3\xa9"}, {with("a", ofText, text(strings.Repeat("a", 300))), "\x04\x01\xac\x02" + strings.Repeat("a", 300)}, {with("a", ofBytes, rawBytes("\xff\x00")), "\x05\x01\x02\xff\x00"},
		{with("a", optOf(ofInt), opt()), "\x06\x02\x01\x00"}, {with("a", optOf(ofInt), opt(number(5))), "\x06\x02\x01\x01\x0a"}, {with("a", listOf(ofBool), list()), "\x07\x01\x01\x00"}, {with("a", listOf(ofBool), list(boolean(1), boolean(0), boolean(1))), "\x07\x01\x01\x03\x01\x00\x01"},
		{with("a", listOf(ofBool), list(times(256, boolean(1))...)), "\x07\x01\x01\x80\x02" + strings.Repeat("\x01", 256)}, {with("a", listOf(optOf(listOf(ofText))), list(opt(), opt(list()), opt(list(text(""), text("a"))))), "\x07\x06\x07\x04\x01\x03\x00\x01\x00\x01\x02\x00\x01a"},
	} {
		b, e := schema.Encode(of(one.c))
		if want := "\x01\x01a" + one.want; e != api.OK || string(b) != want {
			t.Fatalf("Encode(%.300s): %x, %d, want %x", exact(of(one.c)), b, e, want)
		}
		sameDecode(t, string(b), api.OK)
		sameEncode(t, of(plain("zz", ofInt), one.c, plain("b", ofText)))
	}
	if b, e := schema.Encode(of(plain("abcdefghijklmnop", ofInt), plain("q", ofText))); e != api.OK || string(b) != "\x02\x10abcdefghijklmnop\x02\x00\x01q\x04\x00" {
		t.Fatalf("Encode of two: %x, %d", b, e)
	}
	if b, e := schema.Encode(wide(16)); e != api.OK || b[0] != 16 || len(b) != 1+10*5+6*6 {
		t.Fatalf("Encode of sixteen: %x, %d", b, e)
	}
}

// TestEncodeNaNs: P7.6, R6: of every NaN of a default the bytes of the one.
func TestEncodeNaNs(t *testing.T) {
	for _, bits := range nanBits {
		s := of(with("f", ofFloat, nan(bits)), with("l", listOf(optOf(ofFloat)), list(opt(nan(bits)), opt(), opt(float(minusZero)))))
		const one = "\x00\x00\x00\x00\x00\x00\xf8\x7f"
		want := "\x02\x01f\x03\x01" + one + "\x01l\x07\x06\x03\x01\x03\x01" + one + "\x00\x01\x00\x00\x00\x00\x00\x00\x00\x80"
		b, e := schema.Encode(s)
		if e != api.OK || string(b) != want {
			t.Fatalf("Encode with the NaN %x: %x, %d", bits, b, e)
		}
		back, e := schema.Decode(b)
		if got := math.Float64bits(back.Columns[0].Default.Float); e != api.OK || got != theNaN {
			t.Fatalf("Decode with the NaN: %x, %d", got, e)
		}
	}
}

// TestDecodeFloats: P7.7: which bits of a default's float are taken.
func TestDecodeFloats(t *testing.T) {
	ask := func(bits uint64, want api.Errno) {
		t.Helper()
		b := string(binary.LittleEndian.AppendUint64(nil, bits))
		sameDecode(t, "\x01\x01f\x03\x01"+b, want)
		sameDecode(t, "\x01\x01f\x06\x03\x01\x01"+b, want)
		sameDecode(t, "\x01\x01f\x07\x03\x01\x02"+strings.Repeat("\x00", 8)+b, want)
	}
	for _, bits := range nanBits[1:] {
		ask(bits, api.ErrForm)
	}
	ask(theNaN, api.OK)
	for _, x := range otherFloats {
		ask(math.Float64bits(x), api.OK)
	}
	for bit := range 64 {
		// An infinity with a bit of its lower 52 turned is a NaN.
		want := api.OK
		if bit < 51 {
			want = api.ErrForm
		}
		ask(0x7ff0000000000000^1<<bit, want)
		ask(1<<bit, api.OK)
	}
	for n := range 8 {
		sameDecode(t, "\x01\x01f\x03\x01"+strings.Repeat("\xff", n), api.ErrShort)
	}
}

// valueErrors are bytes of a value of a type, and the error that they have.
var valueErrors = []struct {
	kinds, b string
	e        api.Errno
}{
	{"\x01", "", api.ErrShort}, {"\x01", "\x02", api.ErrForm}, {"\x01", "\x80", api.ErrForm}, {"\x01", "\xff", api.ErrForm}, {"\x01", "\x00", api.OK}, {"\x01", "\x01", api.OK},
	{"\x02", "", api.ErrShort}, {"\x02", "\x80", api.ErrShort}, {"\x02", "\x80\x00", api.ErrForm}, {"\x02", "\xff\xff\xff\xff\xff\xff\xff\xff\xff", api.ErrShort}, {"\x02", "\xff\xff\xff\xff\xff\xff\xff\xff\xff\x02", api.ErrForm}, {"\x02", "\x80\x80\x80\x80\x80\x80\x80\x80\x80\x80", api.ErrForm}, {"\x02", "\xff\xff\xff\xff\xff\xff\xff\xff\xff\x01", api.OK}, {"\x02", "\x7f", api.OK},
	{"\x03", "", api.ErrShort}, {"\x03", "\xff\xff\xff\xff\xff\xff\xff", api.ErrShort}, {"\x03", "\xff\xff\xff\xff\xff\xff\xff\xff", api.ErrForm}, {"\x03", "\x01\x00\x00\x00\x00\x00\xf8\x7f", api.ErrForm}, {"\x03", "\x00\x00\x00\x00\x00\x00\xf8\xff", api.ErrForm}, {"\x03", "\x00\x00\x00\x00\x00\x00\xf8\x7f", api.OK}, {"\x03", "\x00\x00\x00\x00\x00\x00\xf0\x7f", api.OK},
	{"\x04", "", api.ErrShort}, {"\x04", "\x80", api.ErrShort}, {"\x04", "\x81\x00", api.ErrForm}, {"\x04", "\x81\x08", api.ErrLong}, {"\x04", "\xff\xff\xff\xff\xff\xff\xff\xff\xff\x01", api.ErrLong}, {"\x04", "\x80\x80\x80\x80\x80\x80\x80\x80\x80\x01", api.ErrLong}, {"\x04", "\x80\x80\x80\x80\x10", api.ErrLong}, {"\x04", "\x80\x08", api.ErrShort}, {"\x04", "\x01", api.ErrShort}, {"\x04", "\x02\xff", api.ErrShort}, {"\x04", "\x01\xff", api.ErrUtf}, {"\x04", "\x02a\xc3", api.ErrUtf}, {"\x04", "\x03\xed\xa0\x80", api.ErrUtf}, {"\x04", "\x02\xc3\xa9", api.OK}, {"\x04", "\x00", api.OK},
	{"\x05", "", api.ErrShort}, {"\x05", "\x80", api.ErrShort}, {"\x05", "\x81\x00", api.ErrForm}, {"\x05", "\x81\x08", api.ErrLong}, {"\x05", "\x80\x08", api.ErrShort}, {"\x05", "\x01", api.ErrShort}, {"\x05", "\x01\xff", api.OK}, {"\x05", "\x00", api.OK},
	{"\x06\x02", "", api.ErrShort}, {"\x06\x02", "\x02", api.ErrForm}, {"\x06\x02", "\x80\x00", api.ErrForm}, {"\x06\x02", "\x01", api.ErrShort}, {"\x06\x02", "\x01\x80\x00", api.ErrForm}, {"\x06\x02", "\x00", api.OK}, {"\x06\x02", "\x01\x05", api.OK}, {"\x06\x04", "\x01\x01\xff", api.ErrUtf}, {"\x06\x06\x01", "\x01\x02", api.ErrForm},
	{"\x07\x01", "", api.ErrShort}, {"\x07\x01", "\x80", api.ErrShort}, {"\x07\x01", "\x81\x00", api.ErrForm}, {"\x07\x01", "\x81\x02", api.ErrMany}, {"\x07\x01", "\xff\xff\xff\xff\xff\xff\xff\xff\xff\x01", api.ErrMany}, {"\x07\x01", "\x80\x80\x80\x80\x10", api.ErrMany}, {"\x07\x01", "\x80\x02", api.ErrShort}, {"\x07\x01", "\x80\x02\x02", api.ErrForm}, {"\x07\x01", "\x02\x01", api.ErrShort}, {"\x07\x01", "\x02\x01\x02", api.ErrForm}, {"\x07\x01", "\x02\x02\x02", api.ErrForm}, {"\x07\x01", "\x00", api.OK}, {"\x07\x01", "\x02\x01\x00", api.OK},
	{"\x07\x04", "\x03\x00\x01\xff\x81\x08", api.ErrUtf}, {"\x07\x04", "\x03\x00\x81\x08\x01\xff", api.ErrLong}, {"\x07\x07\x01", "\x02\x01\x02\x81\x02", api.ErrForm}, {"\x07\x07\x01", "\x02\x00\x81\x02", api.ErrMany}, {"\x07\x07\x01", "\x02\x00", api.ErrShort}, {"\x07\x06\x07\x01", "\x01\x01\x01\x03", api.ErrForm}, {"\x07\x06\x07\x01", "\x01\x01\x01\x01", api.OK},
}

// TestDecodeValues: P7.7: each error of a default, in the first column and in a later one, with bytes left behind it and without.
func TestDecodeValues(t *testing.T) {
	for _, one := range valueErrors {
		first := "\x01a" + one.kinds + "\x01" + one.b
		sameDecode(t, "\x01"+first, one.e)
		sameDecode(t, "\x02\x01b\x02\x00"+first, one.e)
		sameDecode(t, "\x03\x01b\x04\x01\x01c\x01d\x07\x01\x01\x01\x01"+first, one.e)
		switch one.e {
		case api.ErrShort:
		case api.OK:
			sameDecode(t, "\x01"+first+"\x00", api.ErrForm)
			sameDecode(t, "\x02"+first, api.ErrShort)
			sameDecode(t, "\x02"+first+"\x01a", api.ErrTwice)
			sameDecode(t, "\x02"+first+"\x01b\x02\x00", api.OK)
		default:
			sameDecode(t, "\x01"+first+"\x00", one.e)
			sameDecode(t, "\x02"+first+"\x01A", one.e)
		}
	}
	sameDecode(t, "\x01\x01a\x05\x01\xf8\x07"+strings.Repeat("a", 1016), api.OK)
	sameDecode(t, "\x01\x01a\x05\x01\xf9\x07"+strings.Repeat("a", 1017), api.OK)
	sameDecode(t, "\x01\x01a\x05\x01\xfa\x07"+strings.Repeat("a", 1018), api.ErrLong)
	sameDecode(t, "\x01\x01a\x05\x01\xfa\x07"+strings.Repeat("a", 1017), api.ErrShort)
	sameDecode(t, "\x01\x01a\x07\x01\x01\x80\x02"+strings.Repeat("\x01", 256), api.OK)
	sameDecode(t, "\x01\x01a\x07\x01\x01\x81\x02"+strings.Repeat("\x01", 257), api.ErrMany)
}

// TestDecodeCount: P7.7: how many columns: numbers that are none, 0, 1, 16, 17, very many.
func TestDecodeCount(t *testing.T) {
	for n := range uint64(400) {
		want := api.ErrShort
		switch {
		case n == 0:
			want = api.ErrEmpty
		case n > 16:
			want = api.ErrMany
		}
		b := string(leb.Put(n))
		sameDecode(t, b, want)
		if want != api.ErrShort {
			sameDecode(t, b+"\x01a\x02\x00", want)
		}
	}
	for _, n := range []uint64{1 << 8, 1<<8 + 1, 1 << 31, 1 << 32, 1<<32 + 1, 1 << 63, 1<<63 + 1, math.MaxUint64} {
		sameDecode(t, string(leb.Put(n)), api.ErrMany)
		sameDecode(t, string(leb.Put(n))+"\x01a\x02\x00", api.ErrMany)
	}
	for _, b := range []string{"\x80", "\x81", "\xff\xff\xff\xff\xff\xff\xff\xff\xff"} {
		sameDecode(t, b, api.ErrShort)
	}
	for _, b := range []string{"\x80\x00", "\x81\x00", "\x81\x00\x01a\x02\x00", "\x91\x80\x00", "\xff\xff\xff\xff\xff\xff\xff\xff\xff\x02", "\x80\x80\x80\x80\x80\x80\x80\x80\x80\x80"} {
		sameDecode(t, b, api.ErrForm)
	}
	for n := 1; n <= 18; n++ {
		var b []byte
		for i := range n {
			b = append(b, 1, byte('a'+i), 2, 0)
		}
		for declared := range 20 {
			asTheWords(t, append([]byte{byte(declared)}, b...))
		}
	}
}

// TestDecodeNames: P7.7: how long a name is, which bytes it has, whether it stood ahead; wherever the column stands.
func TestDecodeNames(t *testing.T) {
	for _, ahead := range []string{"\x01", "\x02\x01q\x02\x00", "\x03\x01q\x02\x00\x02qq\x04\x01\x01x"} {
		for n := range uint64(400) {
			letters := strings.Repeat("a", int(n))
			want := api.ErrName
			if n >= 1 && n <= 16 {
				want = api.OK
				sameDecode(t, ahead+string(leb.Put(n)), api.ErrShort)
				sameDecode(t, ahead+string(leb.Put(n))+letters[1:], api.ErrShort)
				sameDecode(t, ahead+string(leb.Put(n))+strings.ToUpper(letters[1:]), api.ErrShort)
				sameDecode(t, ahead+string(leb.Put(n))+letters[1:]+"A", api.ErrName)
				sameDecode(t, ahead+string(leb.Put(n))+letters, api.ErrShort)
			} else {
				sameDecode(t, ahead+string(leb.Put(n)), want)
			}
			sameDecode(t, ahead+string(leb.Put(n))+letters+"\x02\x00", want)
		}
		for _, n := range []uint64{1 << 31, 1<<32 + 1, 1<<63 + 1, math.MaxUint64} {
			sameDecode(t, ahead+string(leb.Put(n))+"a\x02\x00", api.ErrName)
		}
		for c := range 256 {
			for _, name := range []string{string([]byte{byte(c)}), "x" + string([]byte{byte(c)})} {
				asTheWords(t, []byte(ahead+string(leb.Put(uint64(len(name))))+name+"\x02\x00"))
			}
		}
		for _, b := range []string{"\x80\x00", "\x81\x00a\x02\x00", "\xff\xff\xff\xff\xff\xff\xff\xff\xff\x02"} {
			sameDecode(t, ahead+b, api.ErrForm)
		}
		sameDecode(t, ahead, api.ErrShort)
		sameDecode(t, ahead+"\x81", api.ErrShort)
	}
	sameDecode(t, "\x02\x01a\x02\x00\x01a", api.ErrTwice)
	sameDecode(t, "\x02\x01a\x02\x00\x01a\x09", api.ErrTwice)
	sameDecode(t, "\x03\x01a\x02\x00\x01b\x02\x00\x01a\x02\x00", api.ErrTwice)
	sameDecode(t, "\x03\x01a\x02\x00\x01b\x02\x00\x01b\x02\x00", api.ErrTwice)
	sameDecode(t, "\x02\x01a\x02\x00\x02aa\x02\x00", api.OK)
}

// TestDecodeTypes: P7.7: every row of up to five kinds, and all bytes in each of their places.
func TestDecodeTypes(t *testing.T) {
	kinds := []byte{0, 1, 2, 3, 4, 5, 6, 7, 8, 0xff}
	var more func(b []byte)
	more = func(b []byte) {
		for _, behind := range []string{"", "\x00", "\x01", "\x02", "\x01\x00", "\x00\x00"} {
			asTheWords(t, append(slices.Clone(b), behind...))
		}
		if len(b) == 3+5 {
			return
		}
		for _, k := range kinds {
			if len(b) > 3 && b[len(b)-1] != 6 && b[len(b)-1] != 7 {
				continue
			}
			more(append(slices.Clone(b), k))
		}
	}
	more([]byte("\x01\x01a"))
	for k := range 256 {
		for n := range 5 {
			asTheWords(t, append([]byte("\x01\x01a"+strings.Repeat("\x07", n)), byte(k), 0))
			asTheWords(t, append([]byte("\x02\x01b\x01\x00\x01a"+strings.Repeat("\x06", n)), byte(k), 0))
			asTheWords(t, append([]byte("\x02\x01b\x01\x00\x01a"+strings.Repeat("\x06", n)), byte(k)))
		}
	}
	for n := range 12 {
		want := api.ErrDeep
		if n < 4 {
			want = api.ErrShort
		}
		sameDecode(t, "\x01\x01a"+strings.Repeat("\x07", n), want)
		sameDecode(t, "\x01\x01a"+strings.Repeat("\x06", n), want)
		if n < 4 {
			sameDecode(t, "\x01\x01a"+strings.Repeat("\x07", n)+"\x02\x00", api.OK)
			sameDecode(t, "\x01\x01a"+strings.Repeat("\x07", n)+"\x08", api.ErrKind)
		} else {
			sameDecode(t, "\x01\x01a"+strings.Repeat("\x07", n)+"\x08", api.ErrDeep)
		}
	}
}

// TestDecodeHas: P7.7: the byte that says whether there is a default.
func TestDecodeHas(t *testing.T) {
	for c := range 256 {
		for _, ahead := range []string{"\x01\x01a\x01", "\x02\x01b\x02\x00\x01a\x01", "\x01\x01a\x07\x06\x01"} {
			want := api.ErrForm
			switch c {
			case 0:
				want = api.OK
			case 1:
				want = api.ErrShort
			}
			sameDecode(t, ahead+string([]byte{byte(c)}), want)
			asTheWords(t, append([]byte(ahead), byte(c), 0))
			asTheWords(t, append([]byte(ahead), byte(c), 1))
		}
	}
}

// TestDecodeLength: P7.7: MaxSchema bytes, one more, whatever they are.
func TestDecodeLength(t *testing.T) {
	for _, n := range []int{1025, 1026, 2048, 100000} {
		for _, c := range []string{"\x00", "\x11", "\xff", "\x01", "\x80", "a"} {
			sameDecode(t, strings.Repeat(c, n), api.ErrLong)
		}
		right := "\x01\x01a\x02\x00"
		sameDecode(t, right+strings.Repeat("\x00", n-len(right)), api.ErrLong)
	}
	sameDecode(t, strings.Repeat("\x00", 1024), api.ErrEmpty)
	sameDecode(t, strings.Repeat("\x11", 1024), api.ErrMany)
	sameDecode(t, strings.Repeat("\x80", 1024), api.ErrForm)
	sameDecode(t, "\x01\x01a\x02\x00"+strings.Repeat("\x00", 1019), api.ErrForm)
}

// someBytes are the bytes of schemas with all that may stand in them.
func someBytes(t *testing.T) [][]byte {
	t.Helper()
	var all [][]byte
	schemas := []api.Schema{
		wide(1), wide(3), wide(16),
		of(with("b", ofBool, boolean(1)), with("i", ofInt, number(-300)), with("f", ofFloat, float(-0.5)), with("t", ofText, text("\u20ac\u00e9x")), with("y", ofBytes, rawBytes("\xff\x00"))),
		of(with("opt", optOf(ofText), opt(text("h\u00e9"))), with("none", optOf(ofInt), opt()), with("list", listOf(ofInt), list(number(1), number(-1000), number(math.MinInt64)))),
		of(with("deep_one", listOf(optOf(listOf(ofFloat))), list(opt(), opt(list(float(1), nan(theNaN))), opt(list()))), plain("abcdefghijklmnop", within(3, api.Opt, ofBytes))),
		of(with("long", ofText, text(strings.Repeat("ab", 70))), with("many", listOf(ofBool), list(times(130, boolean(1))...))),
	}
	for _, s := range schemas {
		b, e := schema.Encode(s)
		if e != api.OK {
			t.Fatalf("Encode(%.300s): %d", exact(s), e)
		}
		all = append(all, b)
	}
	return all
}

// TestDecodeCut: P7.7: bytes that are cut short at every place, with bytes left behind, without their beginning.
func TestDecodeCut(t *testing.T) {
	for _, b := range someBytes(t) {
		sameDecode(t, string(b), api.OK)
		for n := range b {
			sameDecode(t, string(b[:n]), api.ErrShort)
			asTheWords(t, b[n:])
			asTheWords(t, append(slices.Clone(b[:n]), b[n+1:]...))
		}
		for c := range 256 {
			sameDecode(t, string(b)+string([]byte{byte(c)}), api.ErrForm)
		}
		sameDecode(t, string(b)+string(b), api.ErrForm)
	}
}

// TestDecodeOther: P7.7: another byte in every place, of long ones every few.
func TestDecodeOther(t *testing.T) {
	seen := map[api.Errno]int{}
	for _, b := range someBytes(t) {
		step := 1 + len(b)/32
		for at := range b {
			for c := at % step; c < 256; c += step {
				other := slices.Clone(b)
				other[at] = byte(c)
				asTheWords(t, other)
				_, e := schema.Decode(other)
				seen[e]++
			}
		}
	}
	for _, e := range []api.Errno{api.OK, api.ErrLong, api.ErrMany, api.ErrEmpty, api.ErrForm, api.ErrShort, api.ErrKind, api.ErrUtf, api.ErrName, api.ErrTwice} {
		if seen[e] < 5 {
			t.Errorf("only %d with the error %d", seen[e], e)
		}
	}
}

// TestDecodeMoreBytes: P7.7: each number in one byte more than it needs is ErrForm.
func TestDecodeMoreBytes(t *testing.T) {
	for _, one := range []string{
		"\x81\x00\x01a\x02\x00", "\x01\x81\x00a\x02\x00", "\x01\x01a\x02\x01\x85\x00", "\x01\x01a\x04\x01\x81\x00x", "\x01\x01a\x05\x01\x80\x00", "\x01\x01a\x07\x01\x01\x81\x00\x01", "\x01\x01a\x07\x01\x01\x80\x80\x00",
		"\x02\x01a\x02\x00\x81\x00b\x02\x00", "\x01\x01a\x06\x02\x01\x01\x85\x00", "\x01\x01a\x07\x02\x01\x02\x01\x85\x00", "\x01\x01a\x07\x07\x01\x01\x01\x80\x00",
	} {
		sameDecode(t, one, api.ErrForm)
	}
}

// TestDecodeShort: P7.7: all rows of up to three bytes behind each of a few beginnings.
func TestDecodeShort(t *testing.T) {
	signs := []byte{0, 1, 2, 3, 4, 5, 6, 7, 8, 0x10, 0x11, 'a', 'z', 'A', '_', 0x7f, 0x80, 0x81, 0xc3, 0xff}
	for _, ahead := range []string{"", "\x01", "\x01\x01", "\x01\x01a", "\x01\x01a\x06", "\x01\x01a\x07\x01", "\x01\x01a\x02\x01", "\x01\x01a\x04\x01", "\x01\x01a\x06\x01\x01", "\x01\x01a\x07\x04\x01", "\x02\x01a\x02\x00", "\x02\x01a\x02\x00\x01"} {
		asTheWords(t, []byte(ahead))
		for c := range 256 {
			asTheWords(t, append([]byte(ahead), byte(c)))
		}
		for _, a := range signs {
			for _, b := range signs {
				asTheWords(t, append([]byte(ahead), a, b))
				for _, c := range signs {
					asTheWords(t, append([]byte(ahead), a, b, c))
				}
			}
		}
	}
}

// TestUnlikeBytes: P7.9: no two schemas that are not the same have the same bytes.
func TestUnlikeBytes(t *testing.T) {
	told := map[string]string{}
	for _, s := range manySchemas() {
		b, e := schema.Encode(s)
		if e != api.OK {
			continue
		}
		if before, is := told[string(b)]; is && before != fixed(s) {
			t.Fatalf("%x is %.300s and %.300s", b, before, fixed(s))
		}
		told[string(b)] = fixed(s)
	}
	if len(told) < 1000 {
		t.Fatalf("only %d schemas", len(told))
	}
}

// roomyValue is v with room behind each of its lists, in which a value stands that is not v's.
func roomyValue(v api.Value) api.Value {
	items := make([]api.Value, 0, len(v.Items)+3)
	for _, item := range v.Items {
		items = append(items, roomyValue(item))
	}
	copy(items[len(items):cap(items)], times(3, nan(0xfff8000000000bad)))
	v.Items = items
	return v
}

func roomyType(t api.Type) api.Type {
	inner := make([]api.Type, 0, len(t.Of)+2)
	for _, one := range t.Of {
		inner = append(inner, roomyType(one))
	}
	copy(inner[len(inner):cap(inner)], []api.Type{kind(77), kind(78)})
	t.Of = inner
	return t
}

// roomy is s with room behind each of its lists.
func roomy(s api.Schema) api.Schema {
	columns := make([]api.Column, 0, len(s.Columns)+2)
	for _, c := range s.Columns {
		columns = append(columns, api.Column{Name: c.Name, Type: roomyType(c.Type), Has: c.Has, Default: roomyValue(c.Default)})
	}
	copy(columns[len(columns):cap(columns)], []api.Column{plain("room", kind(79)), plain("a", ofInt)})
	return api.Schema{Columns: columns}
}

// opened are the lists of a schema with the room behind them, as if it were theirs.
func opened(s api.Schema) api.Schema {
	var all api.Schema
	for _, c := range s.Columns[:cap(s.Columns)] {
		all.Columns = append(all.Columns, api.Column{Name: c.Name, Type: openedType(c.Type), Has: c.Has, Default: openedValue(c.Default)})
	}
	return all
}

func openedType(t api.Type) api.Type {
	all := kind(t.Kind)
	for _, one := range t.Of[:cap(t.Of)] {
		all.Of = append(all.Of, openedType(one))
	}
	return all
}

func openedValue(v api.Value) api.Value {
	all := v
	all.Items = nil
	for _, item := range v.Items[:cap(v.Items)] {
		all.Items = append(all.Items, openedValue(item))
	}
	return all
}

// TestArgumentStays: R4, R5: what is handed in stays, with the room behind each list; nothing of that room counts; a second call answers the same.
func TestArgumentStays(t *testing.T) {
	for _, s := range manySchemas()[:1500] {
		given := roomy(s)
		before, told := exact(opened(given)), exact(given)
		for range 2 {
			sameCheck(t, given, wordCheck(s))
			sameSame(t, given, s, true)
			for _, c := range given.Columns {
				sameType(t, c.Type, wordType(c.Type))
				schema.Is(c.Default, c.Type)
				schema.SameType(c.Type, ofInt)
				schema.Find(given, c.Name)
			}
			schema.Find(given, "room")
		}
		if exact(opened(given)) != before || exact(given) != told {
			t.Fatalf("what was handed in was changed: %.300s", before)
		}
	}
	for _, b := range someBytes(t) {
		given := append(slices.Clone(b), "room behind"...)[:len(b)]
		asTheWords(t, given)
		if _, e := schema.Decode(given); e != api.OK || string(given[:len(b)+11]) != string(b)+"room behind" {
			t.Fatalf("what was handed in was changed: %x", given[:len(b)+11])
		}
	}
}

// spoil writes into all lists of a schema, those deep inside first, and into the room behind them.
func spoil(s api.Schema) {
	for _, c := range s.Columns {
		spoilType(c.Type)
		spoilValue(c.Default)
	}
	whole := s.Columns[:cap(s.Columns)]
	for i := range whole {
		whole[i] = plain("spoilt", kind(99))
	}
}

func spoilType(t api.Type) {
	for _, one := range t.Of {
		spoilType(one)
	}
	whole := t.Of[:cap(t.Of)]
	for i := range whole {
		whole[i] = kind(98)
	}
}

func spoilValue(v api.Value) {
	for _, item := range v.Items {
		spoilValue(item)
	}
	whole := v.Items[:cap(v.Items)]
	for i := range whole {
		whole[i] = api.Value{Kind: -99, Int: 99, Float: 99, Text: "spoilt"}
	}
}

// TestAnswersAreTheCallers: R4: who writes into what was handed in, or into what was told, changes no other.
func TestAnswersAreTheCallers(t *testing.T) {
	for _, b := range someBytes(t) {
		given := slices.Clone(b)
		first, _ := schema.Decode(given)
		second, _ := schema.Decode(given)
		told := exact(second)
		spoil(first)
		if exact(second) != told || !bytes.Equal(given, b) {
			t.Fatalf("Decode(%x) shares memory with its argument or with another answer", b)
		}
		for i := range given {
			given[i] = 'q'
		}
		if exact(second) != told {
			t.Fatalf("Decode(%x) shares memory with its argument", b)
		}
		one, _ := schema.Encode(second)
		two, _ := schema.Encode(second)
		whole := one[:cap(one)]
		for i := range whole {
			whole[i] = 0xee
		}
		if !bytes.Equal(two, b) || exact(second) != told {
			t.Fatalf("Encode(%.300s) shares memory", told)
		}
		spoil(second)
		if !bytes.Equal(two, b) {
			t.Fatalf("Encode(%.300s) shares memory with its argument", told)
		}
	}
}

// TestListsOfOneAnswer: R4: no two lists that Decode tells share any memory: each column, spoilt, leaves the others.
func TestListsOfOneAnswer(t *testing.T) {
	l := listOf(listOf(optOf(ofInt)))
	v := list(list(opt(number(1)), opt()), list(), list(opt(number(2))))
	b, e := schema.Encode(of(with("a", l, v), with("b", l, v), plain("c", within(3, api.List, ofText)), plain("d", within(3, api.List, ofText))))
	if e != api.OK {
		t.Fatal(e)
	}
	fresh := func() api.Schema {
		s, _ := schema.Decode(b)
		return s
	}
	want := exact(fresh())
	for at := range 4 {
		s := fresh()
		spoilType(s.Columns[at].Type)
		s.Columns[at].Type = fresh().Columns[at].Type
		if exact(s) != want {
			t.Fatalf("the type of the column %d shares memory", at)
		}
		spoilValue(s.Columns[at].Default)
		s.Columns[at].Default = fresh().Columns[at].Default
		if exact(s) != want {
			t.Fatalf("the default of the column %d shares memory", at)
		}
		for i := range s.Columns[at].Default.Items {
			spoilValue(s.Columns[at].Default.Items[i])
			s.Columns[at].Default.Items[i] = fresh().Columns[at].Default.Items[i]
			if exact(s) != want {
				t.Fatalf("the item %d of the default of the column %d shares memory", i, at)
			}
		}
	}
}

// TestDecodeMixed: P7.7, P7.9: bytes of mixed schemas, whole and with a few other bytes in them.
func TestDecodeMixed(t *testing.T) {
	taken := 0
	for k, s := range manySchemas() {
		b, e := schema.Encode(s)
		if e != api.OK {
			continue
		}
		sameDecode(t, string(b), api.OK)
		taken++
		for n := range 8 {
			word := mixed(uint64(k*8 + n))
			b[word%uint64(len(b))] = byte(word >> 32 & 0x87)
			asTheWords(t, b)
		}
	}
	if taken < 1000 {
		t.Fatalf("only %d schemas", taken)
	}
}

// FuzzDecode: any bytes, held against the words.
func FuzzDecode(f *testing.F) {
	for _, one := range valueErrors {
		f.Add([]byte("\x01\x01a" + one.kinds + "\x01" + one.b))
	}
	for k := range uint64(20) {
		r := source{mixedBytes(k, 120)}
		if b, e := schema.Encode(r.schema()); e == api.OK {
			f.Add(b)
		}
	}
	f.Fuzz(func(t *testing.T, b []byte) { asTheWords(t, b) })
}

// FuzzSchema: schemas that bytes tell, held against the words.
func FuzzSchema(f *testing.F) {
	for k := range uint64(20) {
		f.Add(mixedBytes(k, 80), mixedBytes(k+1, 80))
	}
	f.Fuzz(func(t *testing.T, one, two []byte) {
		first, second := source{one}, source{two}
		a, b := first.schema(), second.schema()
		sameCheck(t, a, wordCheck(a))
		sameSame(t, a, b, fixed(a) == fixed(b))
	})
}
