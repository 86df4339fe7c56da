package row_test

import (
	"bytes"
	"encoding/binary"
	"math"
	"slices"
	"strings"
	"testing"

	"gabion/api"
	"gabion/row"
)

// sameDecode asks what Decode answers, and, where it takes the bytes, whether Encode makes them again.
func sameDecode(t *testing.T, s api.Schema, b string, at int, want api.Errno) {
	t.Helper()
	words, place, wordE := wordDecode(s, []byte(b), at)
	if wordE != want {
		t.Fatalf("by the words Decode(%.80s; %.80x, %d) is %d, not %d", columnKinds(s), b, at, wordE, want)
	}
	r, behind, e := row.Decode(s, []byte(b), at)
	if e != want || behind != place || exact(r) != exact(words) {
		t.Fatalf("Decode(%.80s; %.80x, %d): %.300s, %d, %d, want %.300s, %d, %d", columnKinds(s), b, at, exact(r), behind, e, exact(words), place, want)
	}
	if e != api.OK {
		if len(r.Values) != 0 || behind != 0 {
			t.Fatalf("Decode(%.80s; %.80x, %d): %d Values and %d beside the error %d", columnKinds(s), b, at, len(r.Values), behind, e)
		}
		return
	}
	again, e := row.Encode(s, r)
	if e != api.OK || string(again) != b[at:behind] {
		t.Fatalf("Encode of Decode(%.80s; %.80x, %d): %.80x, %d", columnKinds(s), b, at, again, e)
	}
}

// sameDecodeValue does for DecodeValue what sameDecode does for Decode.
func sameDecodeValue(t *testing.T, of api.Type, b string, at int, want api.Errno) {
	t.Helper()
	words, place, wordE := wordDecodeValue(of, []byte(b), at)
	if wordE != want {
		t.Fatalf("by the words DecodeValue(%.80s; %.80x, %d) is %d, not %d", kinds(of), b, at, wordE, want)
	}
	v, behind, e := row.DecodeValue(of, []byte(b), at)
	if e != want || behind != place || exact(values(v)) != exact(values(words)) {
		t.Fatalf("DecodeValue(%.80s; %.80x, %d): %.300s, %d, %d, want %.300s, %d, %d", kinds(of), b, at, exact(values(v)), behind, e, exact(values(words)), place, want)
	}
	if e != api.OK {
		if exact(values(v)) != exact(values(api.Value{})) || behind != 0 {
			t.Fatalf("DecodeValue(%.80s; %.80x, %d): %.300s and %d beside the error %d", kinds(of), b, at, exact(values(v)), behind, e)
		}
		return
	}
	again, e := row.EncodeValue(of, v)
	if e != api.OK || string(again) != b[at:behind] {
		t.Fatalf("EncodeValue of DecodeValue(%.80s; %.80x, %d): %.80x, %d", kinds(of), b, at, again, e)
	}
}

// asDecoded is sameDecode with the error that the words tell, asDecodedValue sameDecodeValue.
func asDecoded(t *testing.T, s api.Schema, b string, at int) {
	t.Helper()
	_, _, e := wordDecode(s, []byte(b), at)
	sameDecode(t, s, b, at, e)
}

func asDecodedValue(t *testing.T, of api.Type, b string, at int) {
	t.Helper()
	_, _, e := wordDecodeValue(of, []byte(b), at)
	sameDecodeValue(t, of, b, at, e)
}

// read is bytes of a value of a type, and the error that they have.
type read struct {
	t api.Type
	b string
	e api.Errno
}

// valueErrors are each error of a value that is read, and what is just right.
func valueErrors() []read {
	const most, tooMuch = "\xff\xff\xff\xff\xff\xff\xff\xff\xff\x01", "\xff\xff\xff\xff\xff\xff\xff\xff\xff\x02"
	deep := listOf(optOf(listOf(ofBool)))
	return []read{
		{ofBool, "", api.ErrShort}, {ofBool, "\x02", api.ErrForm}, {ofBool, "\x80", api.ErrForm}, {ofBool, "\xff", api.ErrForm}, {ofBool, "\x00", api.OK}, {ofBool, "\x01", api.OK},
		{ofInt, "", api.ErrShort}, {ofInt, "\x80", api.ErrShort}, {ofInt, "\x80\x00", api.ErrForm}, {ofInt, most[:9], api.ErrShort}, {ofInt, tooMuch, api.ErrForm}, {ofInt, strings.Repeat("\x80", 10), api.ErrForm}, {ofInt, most, api.OK}, {ofInt, "\x7f", api.OK},
		{ofFloat, "", api.ErrShort}, {ofFloat, strings.Repeat("\xff", 7), api.ErrShort}, {ofFloat, strings.Repeat("\xff", 8), api.ErrForm}, {ofFloat, "\x01\x00\x00\x00\x00\x00\xf8\x7f", api.ErrForm}, {ofFloat, "\x00\x00\x00\x00\x00\x00\xf8\xff", api.ErrForm}, {ofFloat, "\x00\x00\x00\x00\x00\x00\xf8\x7f", api.OK}, {ofFloat, "\x00\x00\x00\x00\x00\x00\xf0\x7f", api.OK},
		{ofText, "", api.ErrShort}, {ofText, "\x80", api.ErrShort}, {ofText, "\x81\x00", api.ErrForm}, {ofText, "\x81\x08", api.ErrLong}, {ofText, most, api.ErrLong}, {ofText, "\x80\x80\x80\x80\x80\x80\x80\x80\x80\x01", api.ErrLong}, {ofText, "\x80\x80\x80\x80\x10", api.ErrLong}, {ofText, tooMuch, api.ErrForm}, {ofText, "\x80\x08", api.ErrShort}, {ofText, "\x01", api.ErrShort}, {ofText, "\x02\xff", api.ErrShort}, {ofText, "\x01\xff", api.ErrUtf}, {ofText, "\x02a\xc3", api.ErrUtf}, {ofText, "\x03\xed\xa0\x80", api.ErrUtf}, {ofText, "\x02\xc3\xa9", api.OK}, {ofText, "\x00", api.OK},
		{ofBytes, "", api.ErrShort}, {ofBytes, "\x80", api.ErrShort}, {ofBytes, "\x81\x00", api.ErrForm}, {ofBytes, "\x81\x08", api.ErrLong}, {ofBytes, most, api.ErrLong}, {ofBytes, "\x80\x08", api.ErrShort}, {ofBytes, "\x01", api.ErrShort}, {ofBytes, "\x01\xff", api.OK}, {ofBytes, "\x00", api.OK},
		{optOf(ofInt), "", api.ErrShort}, {optOf(ofInt), "\x02", api.ErrForm}, {optOf(ofInt), "\x80\x00", api.ErrForm}, {optOf(ofInt), "\x81\x00", api.ErrForm}, {optOf(ofInt), "\x01", api.ErrShort}, {optOf(ofInt), "\x01\x80\x00", api.ErrForm}, {optOf(ofInt), "\x00", api.OK}, {optOf(ofInt), "\x01\x05", api.OK}, {optOf(ofText), "\x01\x01\xff", api.ErrUtf}, {optOf(ofText), "\x01\x81\x08", api.ErrLong}, {optOf(optOf(ofBool)), "\x01\x02", api.ErrForm},
		{listOf(ofBool), "", api.ErrShort}, {listOf(ofBool), "\x80", api.ErrShort}, {listOf(ofBool), "\x81\x00", api.ErrForm}, {listOf(ofBool), "\x81\x02", api.ErrMany}, {listOf(ofBool), most, api.ErrMany}, {listOf(ofBool), "\x80\x80\x80\x80\x10", api.ErrMany}, {listOf(ofBool), tooMuch, api.ErrForm}, {listOf(ofBool), "\x80\x02", api.ErrShort}, {listOf(ofBool), "\x80\x02\x02", api.ErrForm}, {listOf(ofBool), "\x02\x01", api.ErrShort}, {listOf(ofBool), "\x02\x01\x02", api.ErrForm}, {listOf(ofBool), "\x02\x02\x02", api.ErrForm}, {listOf(ofBool), "\x00", api.OK}, {listOf(ofBool), "\x02\x01\x00", api.OK},
		{listOf(ofText), "\x03\x00\x01\xff\x81\x08", api.ErrUtf}, {listOf(ofText), "\x03\x00\x81\x08\x01\xff", api.ErrLong}, {listOf(listOf(ofBool)), "\x02\x01\x02\x81\x02", api.ErrForm}, {listOf(listOf(ofBool)), "\x02\x00\x81\x02", api.ErrMany}, {listOf(listOf(ofBool)), "\x02\x00", api.ErrShort}, {deep, "\x01\x01\x01\x03", api.ErrForm}, {deep, "\x01\x02", api.ErrForm}, {deep, "\x01\x01\x81\x02", api.ErrMany}, {deep, "\x01\x01\x01\x01", api.OK},
	}
}

// TestReadValues: P8.2, P8.5: each error of a value, alone and in each column, with bytes ahead and behind.
func TestReadValues(t *testing.T) {
	ahead := []typed{{ofInt, number(-300), "\xd7\x04"}, {ofText, text("\u00e9"), "\x02\xc3\xa9"}, {listOf(ofBool), list(boolean(1)), "\x01\x01"}}
	for _, one := range valueErrors() {
		sameDecodeValue(t, one.t, one.b, 0, one.e)
		sameDecodeValue(t, one.t, "\xff\x80"+one.b, 2, one.e)
		four, bytesAhead := wide(4), ""
		for n := range 4 {
			s := of(four.Columns[:n+1]...)
			s.Columns[n].Type = one.t
			sameDecode(t, s, bytesAhead+one.b, 0, one.e)
			sameDecode(t, s, "\x80"+bytesAhead+one.b, 1, one.e)
			if one.e == api.ErrShort {
				asDecoded(t, s, bytesAhead+one.b+"\x01", 0)
			} else {
				sameDecode(t, s, bytesAhead+one.b+"\x02\xff", 0, one.e)
				sameDecodeValue(t, one.t, one.b+"\xff", 0, one.e)
			}
			if n < 3 {
				s.Columns[n].Type = ahead[n].t
				bytesAhead += ahead[n].b
			}
		}
		within := of(plain("x", one.t), plain("y", ofBool))
		switch one.e {
		case api.ErrShort:
		case api.OK:
			sameDecode(t, within, one.b, 0, api.ErrShort)
			sameDecode(t, within, one.b+"\x02", 0, api.ErrForm)
			sameDecode(t, within, one.b+"\x01", 0, api.OK)
		default:
			sameDecode(t, within, one.b+"\x02", 0, one.e)
		}
	}
}

// TestReadLimits: P8.2, P8.5: texts of MaxText bytes, lists of MaxItems, and one more.
func TestReadLimits(t *testing.T) {
	for _, of := range []api.Type{ofText, ofBytes} {
		sameDecodeValue(t, of, "\x80\x08"+strings.Repeat("a", 1024), 0, api.OK)
		sameDecodeValue(t, of, "\x80\x08"+strings.Repeat("a", 1023), 0, api.ErrShort)
		sameDecodeValue(t, of, "\x81\x08"+strings.Repeat("a", 1025), 0, api.ErrLong)
	}
	sameDecodeValue(t, listOf(ofBool), "\x80\x02"+strings.Repeat("\x01", 256), 0, api.OK)
	sameDecodeValue(t, listOf(ofBool), "\x80\x02"+strings.Repeat("\x01", 255), 0, api.ErrShort)
	sameDecodeValue(t, listOf(ofBool), "\x81\x02"+strings.Repeat("\x01", 257), 0, api.ErrMany)
	sameDecode(t, alone(listOf(ofBool)), "\x80\x02"+strings.Repeat("\x01", 256), 0, api.OK)
	sameDecode(t, alone(listOf(ofBool)), "\x81\x02"+strings.Repeat("\x01", 257), 0, api.ErrMany)
	for n := range uint64(1500) {
		b := string(binary.AppendUvarint(nil, n))
		asDecodedValue(t, ofText, b+strings.Repeat("a", 1500), 0)
		asDecodedValue(t, listOf(ofBool), b+strings.Repeat("\x00", 1500), 0)
		asDecoded(t, alone(ofBytes), b+strings.Repeat("\xff", 1500), 0)
	}
}

// TestReadFloats: P8.2, P8.5: which bits of a float are taken.
func TestReadFloats(t *testing.T) {
	ask := func(bits uint64, want api.Errno) {
		t.Helper()
		b := string(binary.LittleEndian.AppendUint64(nil, bits))
		sameDecodeValue(t, ofFloat, b, 0, want)
		sameDecodeValue(t, optOf(ofFloat), "\x01"+b, 0, want)
		sameDecodeValue(t, listOf(ofFloat), "\x02"+strings.Repeat("\x00", 8)+b, 0, want)
		sameDecode(t, of(plain("a", ofInt), plain("b", ofFloat)), "\x05"+b, 0, want)
	}
	for _, bits := range nanBits[1:] {
		ask(bits, api.ErrForm)
	}
	ask(theNaN, api.OK)
	for _, x := range otherFloats {
		ask(math.Float64bits(x), api.OK)
	}
	for bit := range 64 {
		// An infinity with a bit of its lower 52 turned is a NaN.
		want := api.OK
		if bit < 51 {
			want = api.ErrForm
		}
		ask(0x7ff0000000000000^1<<bit, want)
		ask(1<<bit, api.OK)
	}
	for n := range 8 {
		sameDecodeValue(t, ofFloat, strings.Repeat("\xff", n), 0, api.ErrShort)
	}
}

// TestPlaces: P8.2, P8.5: places below 0, 0, within, len(b), one more and far away.
func TestPlaces(t *testing.T) {
	wrong := []int{math.MinInt, math.MinInt + 1, -1 << 32, -2, -1}
	for n := range 20 {
		b := strings.Repeat("\x01", n)
		for _, at := range append(wrong, n, n+1, n+2, 1<<32, math.MaxInt-1, math.MaxInt) {
			for _, of := range []api.Type{ofBool, ofInt, ofFloat, ofText, ofBytes, optOf(ofBool), listOf(ofInt)} {
				sameDecodeValue(t, of, b, at, api.ErrShort)
				sameDecode(t, alone(of), b, at, api.ErrShort)
			}
		}
		for at := range n {
			sameDecodeValue(t, ofBool, b, at, api.OK)
			sameDecode(t, alone(ofBool), b, at, api.OK)
			asDecodedValue(t, optOf(ofInt), b, at)
			asDecoded(t, wide(3), b, at)
		}
	}
	// What stands behind the end of the bytes does not count.
	room := []byte("\x01\x01\x01\x01")
	if _, _, e := row.Decode(wide(2), room[:1], 0); e != api.ErrShort {
		t.Fatalf("Decode into the room behind: %d", e)
	}
	if _, _, e := row.DecodeValue(ofText, room[:1], 0); e != api.ErrShort {
		t.Fatalf("DecodeValue into the room behind: %d", e)
	}
	if _, _, e := row.DecodeValue(ofBool, room[:2], 3); e != api.ErrShort {
		t.Fatalf("DecodeValue in the room behind: %d", e)
	}
	if _, _, e := row.Decode(wide(1), nil, 0); e != api.ErrShort {
		t.Fatalf("Decode of nothing: %d", e)
	}
}

// someRows are rows with all that may stand in them.
func someRows(t *testing.T) []pair {
	t.Helper()
	all := []pair{
		{wide(1), values(number(0))}, {wide(16), values(times(16, number(-300))...)},
		{of(plain("b", ofBool), plain("i", ofInt), plain("f", ofFloat), plain("t", ofText), plain("y", ofBytes)), values(boolean(1), number(-300), float(-0.5), text("\u20ac\u00e9x"), rawBytes("\xff\x00"))},
		{of(plain("o", optOf(ofText)), plain("n", optOf(ofInt)), plain("l", listOf(ofInt))), values(opt(text("h\u00e9")), opt(), list(number(1), number(-1000), number(math.MinInt64)))},
		{of(plain("d", listOf(optOf(listOf(ofFloat)))), plain("e", within(3, api.Opt, ofBytes))), values(list(opt(), opt(list(float(1), nan(theNaN))), opt(list())), opt(opt(opt(rawBytes("\x00")))))},
		{of(plain("t", ofText), plain("m", listOf(ofBool)), plain("z", ofInt)), values(text(strings.Repeat("ab", 70)), list(times(130, boolean(1))...), number(1))},
		{of(plain("l", within(3, api.List, ofText)), plain("z", listOf(listOf(ofInt)))), values(list(list(list(text("a"), text("")), list()), list()), list(list(number(-1)), list(), list(number(2), number(3))))},
	}
	for _, one := range all {
		sameEncode(t, one.s, one.r, api.OK)
	}
	return all
}

func bytesOf(t *testing.T, one pair) string {
	t.Helper()
	b, e := row.Encode(one.s, one.r)
	if e != api.OK {
		t.Fatalf("Encode(%s; %.300s): %d", columnKinds(one.s), exact(one.r), e)
	}
	return string(b)
}

// TestCut: P8.2, P8.5: bytes that are cut short at every place, without their beginning, without one of them; with others ahead and behind.
func TestCut(t *testing.T) {
	for _, one := range someRows(t) {
		b := bytesOf(t, one)
		for n := range b {
			sameDecode(t, one.s, b[:n], 0, api.ErrShort)
			sameDecode(t, one.s, "\x00\xff"+b[:n], 2, api.ErrShort)
			asDecoded(t, one.s, b, n)
			asDecoded(t, one.s, b[n:], 0)
			asDecoded(t, one.s, b[:n]+b[n+1:], 0)
		}
		for i, c := range one.s.Columns {
			v := string(wordValue(nil, one.r.Values[i]))
			for n := range v {
				sameDecodeValue(t, c.Type, v[:n], 0, api.ErrShort)
				sameDecodeValue(t, c.Type, "\x80"+v[:n], 1, api.ErrShort)
				asDecodedValue(t, c.Type, v, n)
			}
		}
		for c := range 256 {
			other := string([]byte{byte(c)})
			sameDecode(t, one.s, b+other, 0, api.OK)
			sameDecode(t, one.s, other+b+other, 1, api.OK)
		}
	}
}

// TestOther: P8.5, P8.6: another byte in every place, of long ones every few.
func TestOther(t *testing.T) {
	seen := map[api.Errno]int{}
	for _, one := range someRows(t) {
		b := bytesOf(t, one)
		step := 1 + len(b)/32
		for at := range b {
			for c := at % step; c < 256; c += step {
				other := []byte(b)
				other[at] = byte(c)
				asDecoded(t, one.s, string(other), 0)
				_, _, e := row.Decode(one.s, other, 0)
				seen[e]++
			}
		}
	}
	for _, e := range []api.Errno{api.OK, api.ErrLong, api.ErrMany, api.ErrForm, api.ErrShort, api.ErrUtf} {
		if seen[e] < 5 {
			t.Errorf("only %d with the error %d", seen[e], e)
		}
	}
}

// TestMoreBytes: P8.2, P8.5: each number in more bytes than it needs is ErrForm, wherever it stands.
func TestMoreBytes(t *testing.T) {
	longer := func(n uint64, more int) string {
		b := binary.AppendUvarint(nil, n)
		b[len(b)-1] |= 0x80
		return string(b) + strings.Repeat("\x80", more-1) + "\x00"
	}
	for _, n := range []uint64{0, 1, 2, 63, 64, 100, 127, 128, 255, 256} {
		for more := 1; more <= 7; more++ {
			b := longer(n, more) + strings.Repeat("\x01", 300)
			for _, of := range []api.Type{ofInt, ofText, ofBytes, listOf(ofBool)} {
				sameDecodeValue(t, of, b, 0, api.ErrForm)
				sameDecodeValue(t, optOf(of), "\x01"+b, 0, api.ErrForm)
				sameDecodeValue(t, listOf(of), "\x02\x00"+b, 0, api.ErrForm)
				sameDecode(t, alone(of), b, 0, api.ErrForm)
				s := wide(2)
				s.Columns[1].Type = of
				sameDecode(t, s, "\x05"+b, 0, api.ErrForm)
			}
		}
	}
}

// TestShort: P8.2, P8.5: all rows of up to three bytes of some, of many types.
func TestShort(t *testing.T) {
	signs := []byte{0, 1, 2, 3, 8, 'a', 0x7f, 0x80, 0x81, 0xa9, 0xc3, 0xff}
	var all []string
	for _, a := range signs {
		all = append(all, string([]byte{a}))
		for _, b := range signs {
			all = append(all, string([]byte{a, b}))
			for _, c := range signs {
				all = append(all, string([]byte{a, b, c}))
			}
		}
	}
	for c := range 256 {
		all = append(all, string([]byte{byte(c)}))
	}
	types := []api.Type{ofBool, ofInt, ofText, ofBytes, optOf(ofBool), optOf(ofText), listOf(ofInt), listOf(ofText), listOf(optOf(ofInt)), within(2, api.List, ofBool), within(3, api.Opt, ofInt), optOf(listOf(ofBool))}
	for _, b := range all {
		for i, one := range types {
			asDecodedValue(t, one, b, 0)
			asDecoded(t, of(plain("a", one), plain("b", types[(i+5)%len(types)])), b, 0)
			for at := range b {
				asDecodedValue(t, one, b, at)
			}
		}
	}
}

// TestReadLong: P8.5: rows of MaxRow bytes and of one more; the length is looked at behind the last value, and counted from the place on.
func TestReadLong(t *testing.T) {
	for _, fill := range fills() {
		for _, others := range [][]typed{nil, {{t: ofInt, v: number(-1)}}, {{t: ofFloat, v: float(minusZero)}, {t: ofBool, v: boolean(1)}}} {
			for total := 1020; total <= 1030; total++ {
				want := api.OK
				if total > 1024 {
					want = api.ErrLong
				}
				one := longOf(t, total, others, fill)
				var b []byte
				for _, v := range one.r.Values {
					b = wordValue(b, v)
				}
				for _, a := range around {
					sameDecode(t, one.s, a.ahead+string(b)+a.behind, len(a.ahead), want)
				}
				asDecoded(t, one.s, string(b[:total-1]), 0)
			}
		}
	}
	long := "\x80\x08" + strings.Repeat("a", 1024)
	for _, one := range valueErrors() {
		want := one.e
		if want == api.OK {
			want = api.ErrLong
		}
		sameDecode(t, of(plain("a", ofText), plain("b", one.t)), long+one.b, 0, want)
		sameDecode(t, of(plain("a", ofText), plain("c", ofText), plain("b", one.t)), long+long+one.b, 0, want)
		if one.e == api.ErrShort {
			continue
		}
		sameDecode(t, of(plain("b", one.t), plain("a", ofText)), one.b+long, 0, want)
		if one.e == api.OK {
			want = api.ErrShort
		}
		sameDecode(t, of(plain("b", one.t), plain("a", ofText), plain("c", ofText)), one.b+long, 0, want)
	}
	sixteen := wide(16)
	for i := range sixteen.Columns {
		sixteen.Columns[i].Type = ofText
	}
	sameDecode(t, sixteen, strings.Repeat(long, 16), 0, api.ErrLong)
	sameDecode(t, sixteen, strings.Repeat(long, 15), 0, api.ErrShort)
	sameDecode(t, sixteen, strings.Repeat(long, 15)+"\x01\xff", 0, api.ErrUtf)
}

// TestDeclared: P8.2, P8.5: lengths that are only declared are told soon, however many lists stand in one another.
func TestDeclared(t *testing.T) {
	deep := within(3, api.List, ofText)
	for n := range 8 {
		b := strings.Repeat("\x80\x02", n)
		sameDecodeValue(t, deep, b, 0, api.ErrShort)
		sameDecode(t, alone(deep), b, 0, api.ErrShort)
	}
	before := testing.AllocsPerRun(10, func() { row.DecodeValue(deep, []byte("\x01\x01\x01\x00"), 0) })
	after := testing.AllocsPerRun(10, func() { row.DecodeValue(deep, []byte("\x80\x02\x80\x02\x80\x02\x00"), 0) })
	if after > before+20 {
		t.Fatalf("%v allocations for bytes that are only declared, %v for those that are there", after, before)
	}
}

// TestOneByOne: P8.6, P8.7: rows that stand one behind the other are read one by one.
func TestOneByOne(t *testing.T) {
	pairs := rightPairs()
	if len(pairs) < 1000 {
		t.Fatalf("only %d rows", len(pairs))
	}
	for k, one := range pairs[:600] {
		rows := []api.Row{one.r}
		for n := range uint64(40) {
			r := source{mixedBytes(uint64(k)<<8+n, 60)}
			other := r.row(one.s)
			if _, e := wordEncode(one.s, other); e == api.OK {
				rows = append(rows, other)
			}
		}
		b, places := []byte("ahead"), []int{}
		for _, r := range rows {
			places = append(places, len(b))
			b = append(b, bytesOf(t, pair{one.s, r})...)
		}
		at := places[0]
		for i, want := range rows {
			r, behind, e := row.Decode(one.s, b, at)
			if e != api.OK || at != places[i] || exact(r) != fixed(want) {
				t.Fatalf("the row %d of %d at %d: %.300s, %d, want %.300s", i, len(rows), at, exact(r), e, fixed(want))
			}
			at = behind
		}
		if at != len(b) {
			t.Fatalf("the rows end at %d, not at %d", at, len(b))
		}
		sameDecode(t, one.s, string(b), at, api.ErrShort)
	}
}

// TestNoneBeginsAnother: P8.7: of all rows of a few values the bytes of one begin those of another one just if they are the same.
func TestNoneBeginsAnother(t *testing.T) {
	choices := map[int][]api.Value{
		api.Bool: {boolean(0), boolean(1)}, api.Int: {number(0), number(-1), number(1), number(64), number(-65), number(8192)}, api.Float: {float(0), float(minusZero), nan(theNaN), nan(math.MaxUint64)}, api.Text: {text(""), text("\x00"), text("\x01\x00"), text("a")}, api.Bytes: {rawBytes(""), rawBytes("\x00\x00"), rawBytes("\x80")},
		api.Opt: {opt(), opt(list()), opt(list(number(0))), opt(list(number(0), number(0)))}, api.List: {list(), list(opt()), list(opt(), opt()), list(opt(text(""))), list(opt(text("\x00")), opt())},
	}
	types := []api.Type{ofBool, ofInt, ofFloat, ofText, ofBytes, optOf(listOf(ofInt)), listOf(optOf(ofText))}
	for _, first := range types {
		for _, second := range types {
			s := of(plain("a", first), plain("b", second))
			var rows []api.Row
			for _, v := range choices[first.Kind] {
				for _, w := range choices[second.Kind] {
					rows = append(rows, values(v, w))
				}
			}
			for _, r := range rows {
				b := bytesOf(t, pair{s, r})
				for _, other := range rows {
					begins := strings.HasPrefix(bytesOf(t, pair{s, other}), b)
					if same := fixed(r) == fixed(other); begins != same {
						t.Fatalf("%s: %s and %s: begins %v, the same %v", columnKinds(s), exact(r), exact(other), begins, same)
					}
				}
			}
		}
	}
}

// TestReadMixed: P8.5, P8.6: bytes of mixed rows with a few other bytes in them, at mixed places.
func TestReadMixed(t *testing.T) {
	taken := 0
	for k, one := range rightPairs() {
		b := []byte(bytesOf(t, one))
		for n := range 8 {
			word := mixed(uint64(k*8 + n))
			b[word%uint64(len(b))] = byte(word >> 32 & 0x87)
			asDecoded(t, one.s, string(b), 0)
			asDecoded(t, one.s, string(b), int(word>>40)%(len(b)+3)-1)
			if _, _, e := row.Decode(one.s, b, 0); e == api.OK {
				taken++
			}
		}
	}
	if taken < 1000 {
		t.Fatalf("only %d rows were taken", taken)
	}
}

// roomyValue is v with room behind each of its lists, in which a value stands that is not v's.
func roomyValue(v api.Value) api.Value {
	items := make([]api.Value, 0, len(v.Items)+3)
	for _, item := range v.Items {
		items = append(items, roomyValue(item))
	}
	copy(items[len(items):cap(items)], times(3, nan(0xfff8000000000bad)))
	v.Items = items
	return v
}

func roomyType(t api.Type) api.Type {
	inner := make([]api.Type, 0, len(t.Of)+2)
	for _, one := range t.Of {
		inner = append(inner, roomyType(one))
	}
	copy(inner[len(inner):cap(inner)], []api.Type{kind(77), kind(78)})
	t.Of = inner
	return t
}

// roomy is a schema and a row with room behind each of their lists.
func roomy(one pair) pair {
	columns := make([]api.Column, 0, len(one.s.Columns)+2)
	for _, c := range one.s.Columns {
		columns = append(columns, api.Column{Name: c.Name, Type: roomyType(c.Type), Has: c.Has, Default: roomyValue(c.Default)})
	}
	copy(columns[len(columns):cap(columns)], []api.Column{plain("room", kind(79)), plain("a", ofInt)})
	return pair{api.Schema{Columns: columns}, api.Row{Values: roomyValue(list(one.r.Values...)).Items}}
}

// opened tells all that stands in the lists of a schema and a row, with the room behind them.
func opened(one pair) string {
	var b strings.Builder
	for _, c := range one.s.Columns[:cap(one.s.Columns)] {
		b.WriteString(c.Name + " " + openedType(c.Type) + exact(values(openedValue(c.Default))))
		if c.Has {
			b.WriteByte('+')
		}
	}
	for _, v := range one.r.Values[:cap(one.r.Values)] {
		b.WriteString(exact(values(openedValue(v))))
	}
	return b.String()
}

func openedType(t api.Type) string {
	all := kind(t.Kind, t.Of[:cap(t.Of)]...)
	l := kinds(kind(t.Kind))
	for _, one := range all.Of {
		l += "<" + openedType(one) + ">"
	}
	return l
}

func openedValue(v api.Value) api.Value {
	all := v
	all.Items = nil
	for _, item := range v.Items[:cap(v.Items)] {
		all.Items = append(all.Items, openedValue(item))
	}
	return all
}

// TestArgumentStays: R4, R5: what is handed in stays, with the room behind each list; nothing of that room counts; a second call answers the same.
func TestArgumentStays(t *testing.T) {
	for _, one := range manyPairs()[:500] {
		given := roomy(one)
		before := opened(given)
		for range 2 {
			asEncoded(t, given.s, given.r)
			for i, c := range given.s.Columns {
				if i < len(given.r.Values) {
					row.EncodeValue(c.Type, given.r.Values[i])
				}
			}
		}
		if opened(given) != before {
			t.Fatalf("what was handed in was changed: %.300s", before)
		}
	}
	for _, one := range someRows(t) {
		b := bytesOf(t, one)
		given := append([]byte(b), "room behind"...)[:len(b)]
		for at := range b {
			row.Decode(one.s, given, at)
			row.DecodeValue(one.s.Columns[0].Type, given, at)
		}
		if string(given[:len(b)+11]) != b+"room behind" {
			t.Fatalf("what was handed in was changed: %x", given[:len(b)+11])
		}
	}
}

// spoil writes into a list of values, those deep inside first, and into the room behind them.
func spoil(l []api.Value) {
	for _, v := range l {
		spoil(v.Items)
	}
	whole := l[:cap(l)]
	for i := range whole {
		whole[i] = api.Value{Kind: -99, Int: 99, Float: 99, Text: "spoilt"}
	}
}

func spoilBytes(b []byte) {
	whole := b[:cap(b)]
	for i := range whole {
		whole[i] = 0xee
	}
}

// TestAnswersAreTheCallers: R4: who writes into what was handed in, or into what was told, changes no other.
func TestAnswersAreTheCallers(t *testing.T) {
	for _, one := range someRows(t) {
		b := bytesOf(t, one)
		given := []byte(b)
		first, _, _ := row.Decode(one.s, given, 0)
		second, _, _ := row.Decode(one.s, given, 0)
		spoil(first.Values)
		v, _, _ := row.DecodeValue(one.s.Columns[0].Type, given, 0)
		w, _, _ := row.DecodeValue(one.s.Columns[0].Type, given, 0)
		spoil(v.Items)
		if exact(second) != fixed(one.r) || string(given) != b {
			t.Fatalf("Decode(%s; %x) shares memory with its argument or with another answer", columnKinds(one.s), b)
		}
		spoilBytes(given)
		if exact(second) != fixed(one.r) || exact(values(w)) != fixed(values(one.r.Values[0])) {
			t.Fatalf("Decode(%s; %x) shares memory with its argument", columnKinds(one.s), b)
		}
		made, _ := row.Encode(one.s, second)
		again, _ := row.Encode(one.s, second)
		spoilBytes(made)
		if string(again) != b || exact(second) != fixed(one.r) {
			t.Fatalf("Encode(%s; %.300s) shares memory", columnKinds(one.s), exact(second))
		}
		alone, _ := row.EncodeValue(one.s.Columns[0].Type, second.Values[0])
		other, _ := row.EncodeValue(one.s.Columns[0].Type, second.Values[0])
		spoilBytes(alone)
		spoil(second.Values)
		if string(again) != b || !bytes.HasPrefix([]byte(b), other) {
			t.Fatalf("Encode(%s) shares memory with its argument", columnKinds(one.s))
		}
	}
}

// TestListsOfOneAnswer: R4: no two lists that Decode tells share any memory: each, spoilt, leaves the others.
func TestListsOfOneAnswer(t *testing.T) {
	l := listOf(listOf(optOf(ofInt)))
	v := list(list(opt(number(1)), opt()), list(), list(opt(number(2))))
	s := of(plain("a", l), plain("b", l), plain("c", listOf(ofText)), plain("d", listOf(ofText)))
	b := []byte(bytesOf(t, pair{s, values(v, v, list(text("a")), list(text("a")))}))
	fresh := func() []api.Value {
		r, _, _ := row.Decode(s, b, 0)
		return r.Values
	}
	want := exact(values(fresh()...))
	for at := range fresh() {
		got := fresh()
		spoil(got[at].Items)
		got[at] = fresh()[at]
		if exact(values(got...)) != want {
			t.Fatalf("the value %d shares memory", at)
		}
		for i := range got[at].Items {
			spoil(got[at].Items[i].Items)
			got[at].Items[i] = fresh()[at].Items[i]
			if exact(values(got...)) != want {
				t.Fatalf("the item %d of the value %d shares memory", i, at)
			}
		}
	}
}

// FuzzRow: schemas and rows that bytes tell, held against the words.
func FuzzRow(f *testing.F) {
	for k := range uint64(20) {
		f.Add(mixedBytes(k, 120))
	}
	f.Fuzz(func(t *testing.T, b []byte) {
		r := source{b}
		s := r.schema()
		asEncoded(t, s, r.row(s))
	})
}

// FuzzRead: any bytes, read as a row of a schema that other bytes tell, held against the words.
func FuzzRead(f *testing.F) {
	for _, one := range valueErrors() {
		f.Add([]byte{byte(one.t.Kind - 1)}, []byte(one.b), 0)
	}
	for k := range uint64(20) {
		r := source{mixedBytes(k, 200)}
		s := r.schema()
		if b, e := row.Encode(s, r.row(s)); e == api.OK {
			f.Add(mixedBytes(k, 60), slices.Concat([]byte{9}, b), 1)
		}
	}
	f.Fuzz(func(t *testing.T, kinds, b []byte, at int) {
		r := source{kinds}
		of := r.kinds(1)
		asDecodedValue(t, of, string(b), at)
		asDecoded(t, r.schema(), string(b), at)
	})
}
