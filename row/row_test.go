package row_test

import (
	"bytes"
	"math"
	"slices"
	"sort"
	"strings"
	"testing"

	"gabion/api"
	"gabion/row"
	"gabion/schema"
	"gabion/value"
)

// around are bytes that stand ahead of those that are read, and behind them.
var around = []struct{ ahead, behind string }{
	{"", ""}, {"\x00", ""}, {"", "\x00"}, {"\xff", "\xff"}, {"\x80\x80", "\x80\x01"}, {strings.Repeat("\x01", 1200), strings.Repeat("\x01", 1200)},
}

// sameEncode asks what Check and Encode answer, and, where Encode makes bytes, whether Decode takes them, whatever stands around them.
func sameEncode(t *testing.T, s api.Schema, r api.Row, want api.Errno) {
	t.Helper()
	words, wordE := wordEncode(s, r)
	if wordE != want {
		t.Fatalf("by the words Encode(%s; %.300s) is %d, not %d", columnKinds(s), exact(r), wordE, want)
	}
	if e := row.Check(s, r); e != want {
		t.Fatalf("Check(%s; %.300s): %d, want %d", columnKinds(s), exact(r), e, want)
	}
	b, e := row.Encode(s, r)
	if e != want || !bytes.Equal(b, words) {
		t.Fatalf("Encode(%s; %.300s): %.80x, %d, want %.80x, %d", columnKinds(s), exact(r), b, e, words, want)
	}
	if e != api.OK {
		return
	}
	if len(b) > 1024 {
		t.Fatalf("Encode(%s; %.300s): %d bytes", columnKinds(s), exact(r), len(b))
	}
	for _, one := range around {
		back, behind, e := row.Decode(s, []byte(one.ahead+string(b)+one.behind), len(one.ahead))
		if e != api.OK || behind != len(one.ahead)+len(b) || exact(back) != fixed(r) || !value.SameRow(back, r) {
			t.Fatalf("Decode(%s; %.20x, %.80x, %.20x): %.300s, %d, %d, want %.300s", columnKinds(s), one.ahead, b, one.behind, exact(back), behind, e, fixed(r))
		}
	}
}

// asEncoded is sameEncode with the error that the words tell.
func asEncoded(t *testing.T, s api.Schema, r api.Row) {
	t.Helper()
	_, e := wordEncode(s, r)
	sameEncode(t, s, r, e)
}

// sameEncodeValue does for EncodeValue what sameEncode does for Encode.
func sameEncodeValue(t *testing.T, of api.Type, v api.Value, want api.Errno) {
	t.Helper()
	words, wordE := wordEncodeValue(of, v)
	if wordE != want {
		t.Fatalf("by the words EncodeValue(%s; %.300s) is %d, not %d", kinds(of), exact(values(v)), wordE, want)
	}
	b, e := row.EncodeValue(of, v)
	if e != want || !bytes.Equal(b, words) {
		t.Fatalf("EncodeValue(%s; %.300s): %.80x, %d, want %.80x, %d", kinds(of), exact(values(v)), b, e, words, want)
	}
	if e != api.OK {
		return
	}
	for _, one := range around {
		back, behind, e := row.DecodeValue(of, []byte(one.ahead+string(b)+one.behind), len(one.ahead))
		if e != api.OK || behind != len(one.ahead)+len(b) || exact(values(back)) != fixed(values(v)) || !value.Same(back, v) {
			t.Fatalf("DecodeValue(%s; %.20x, %.80x, %.20x): %.300s, %d, %d, want %.300s", kinds(of), one.ahead, b, one.behind, exact(values(back)), behind, e, fixed(values(v)))
		}
	}
}

// sameBoth asks EncodeValue of one value, and Encode of rows in which it stands first, between others and last.
func sameBoth(t *testing.T, of api.Type, v api.Value, want api.Errno) {
	t.Helper()
	sameEncodeValue(t, of, v, want)
	sameEncode(t, alone(of), values(v), want)
	three := wide(3)
	three.Columns[1].Type = of
	sameEncode(t, three, values(number(-1), v, number(64)), want)
	three.Columns[1], three.Columns[2] = three.Columns[2], three.Columns[1]
	sameEncode(t, three, values(number(-1), number(64), v), want)
}

// TestExamples: the chapter's examples, as they stand there.
func TestExamples(t *testing.T) {
	s := of(plain("a", ofInt), plain("b", optOf(ofText)))
	for _, one := range []struct {
		r    api.Row
		want string
	}{{values(number(-3), opt()), "\x05\x00"}, {values(number(64), opt(text("hi"))), "\x80\x01\x01\x02hi"}} {
		if b, e := row.Encode(s, one.r); e != api.OK || string(b) != one.want {
			t.Errorf("Encode: %x, %d, want %x", b, e, one.want)
		}
		sameEncode(t, s, one.r, api.OK)
	}
	r, behind, e := row.Decode(s, []byte{5, 0, 7}, 0)
	if e != api.OK || behind != 2 || exact(r) != exact(values(number(-3), opt())) {
		t.Errorf("Decode: %s, %d, %d", exact(r), behind, e)
	}
	sameDecode(t, s, "\x05\x00\x07", 1, api.ErrForm)
	sameDecode(t, s, "\x05", 0, api.ErrShort)
	sameDecode(t, s, "", -1, api.ErrShort)
	sameDecode(t, s, "\x05", 2, api.ErrShort)
	sameEncode(t, s, values(number(-3)), api.ErrType)
	sameEncode(t, s, values(text("a"), opt()), api.ErrType)
	sameEncode(t, api.Schema{}, values(), api.ErrEmpty)
	sameEncode(t, api.Schema{}, values(number(-3)), api.ErrEmpty)
	const minus, nought = "\x00\x00\x00\x00\x00\x00\x00\x80", "\x00\x00\x00\x00\x00\x00\xf8\x7f"
	if b, e := row.EncodeValue(ofFloat, float(minusZero)); e != api.OK || string(b) != minus {
		t.Errorf("EncodeValue of -0: %x, %d", b, e)
	}
	for _, bits := range nanBits {
		if b, e := row.EncodeValue(ofFloat, nan(bits)); e != api.OK || string(b) != nought {
			t.Errorf("EncodeValue of the NaN %x: %x, %d", bits, b, e)
		}
	}
	if b, e := row.EncodeValue(listOf(ofBool), list(boolean(1), boolean(0))); e != api.OK || string(b) != "\x02\x01\x00" {
		t.Errorf("EncodeValue of bools: %x, %d", b, e)
	}
	sameDecodeValue(t, listOf(ofBool), "\x02\x01\x02", 0, api.ErrForm)
	if b, e := row.Encode(alone(ofText), values(text(strings.Repeat("a", 1022)))); e != api.OK || len(b) != 1024 {
		t.Errorf("Encode of 1022: %d bytes, %d", len(b), e)
	}
	sameEncode(t, alone(ofText), values(text(strings.Repeat("a", 1023))), api.ErrLong)
}

// typed is a type, a value of it, and the value's bytes.
type typed struct {
	t api.Type
	v api.Value
	b string
}

// writtenOut are values of each kind with their bytes, by the table of the document.
func writtenOut() []typed {
	return []typed{
		{ofBool, boolean(0), "\x00"}, {ofBool, boolean(1), "\x01"},
		{ofInt, number(0), "\x00"}, {ofInt, number(-1), "\x01"}, {ofInt, number(1), "\x02"}, {ofInt, number(-64), "\x7f"}, {ofInt, number(64), "\x80\x01"}, {ofInt, number(-65), "\x81\x01"}, {ofInt, number(8191), "\xfe\x7f"}, {ofInt, number(8192), "\x80\x80\x01"},
		{ofInt, number(math.MinInt64), "\xff\xff\xff\xff\xff\xff\xff\xff\xff\x01"}, {ofInt, number(math.MaxInt64), "\xfe\xff\xff\xff\xff\xff\xff\xff\xff\x01"},
		{ofFloat, float(0), "\x00\x00\x00\x00\x00\x00\x00\x00"}, {ofFloat, float(minusZero), "\x00\x00\x00\x00\x00\x00\x00\x80"}, {ofFloat, float(1), "\x00\x00\x00\x00\x00\x00\xf0\x3f"}, {ofFloat, float(math.Inf(-1)), "\x00\x00\x00\x00\x00\x00\xf0\xff"}, {ofFloat, float(math.Float64frombits(0x0102030405060708)), "\x08\x07\x06\x05\x04\x03\x02\x01"}, {ofFloat, nan(math.MaxUint64), "\x00\x00\x00\x00\x00\x00\xf8\x7f"},
		{ofText, text(""), "\x00"}, {ofText, text("\x00"), "\x01\x00"}, {ofText, text("h\u00e9"), "\x03h\xc3\xa9"}, {ofText, text(strings.Repeat("a", 127)), "\x7f" + strings.Repeat("a", 127)}, {ofText, text(strings.Repeat("a", 128)), "\x80\x01" + strings.Repeat("a", 128)}, {ofText, text(strings.Repeat("a", 300)), "\xac\x02" + strings.Repeat("a", 300)},
		{ofBytes, rawBytes(""), "\x00"}, {ofBytes, rawBytes("\xff\x00"), "\x02\xff\x00"}, {ofBytes, rawBytes("h\u00e9"), "\x03h\xc3\xa9"},
		{optOf(ofInt), opt(), "\x00"}, {optOf(ofInt), opt(number(5)), "\x01\x0a"}, {optOf(ofText), opt(text("")), "\x01\x00"}, {within(3, api.Opt, ofBool), opt(opt(opt(boolean(1)))), "\x01\x01\x01\x01"}, {within(3, api.Opt, ofBool), opt(opt(opt())), "\x01\x01\x00"}, {within(3, api.Opt, ofBool), opt(opt()), "\x01\x00"}, {within(3, api.Opt, ofBool), opt(), "\x00"},
		{listOf(ofBool), list(), "\x00"}, {listOf(ofBool), list(boolean(1), boolean(0), boolean(1)), "\x03\x01\x00\x01"}, {listOf(ofInt), list(number(-1000)), "\x01\xcf\x0f"}, {listOf(ofBool), list(times(256, boolean(1))...), "\x80\x02" + strings.Repeat("\x01", 256)},
		{listOf(optOf(listOf(ofText))), list(opt(), opt(list()), opt(list(text(""), text("a")))), "\x03\x00\x01\x00\x01\x02\x00\x01a"}, {within(3, api.List, ofInt), list(list(list(number(1), number(2)), list()), list(), list(list(number(3)))), "\x03\x02\x02\x02\x04\x00\x00\x01\x01\x06"},
		{optOf(listOf(optOf(ofBytes))), opt(list(opt(rawBytes("\xff")), opt())), "\x01\x02\x01\x01\xff\x00"},
	}
}

// TestBytes: P8.1, P8.2, P8.4, P8.5: values of each kind, alone and in rows, written out.
func TestBytes(t *testing.T) {
	all := writtenOut()
	for i, one := range all {
		if b, e := row.EncodeValue(one.t, one.v); e != api.OK || string(b) != one.b {
			t.Fatalf("EncodeValue(%s; %.300s): %x, %d, want %x", kinds(one.t), exact(values(one.v)), b, e, one.b)
		}
		sameBoth(t, one.t, one.v, api.OK)
		sameDecodeValue(t, one.t, one.b, 0, api.OK)
		sameDecode(t, alone(one.t), one.b, 0, api.OK)
		for _, other := range all[max(0, i-3):] {
			s := of(plain("x", one.t), plain("y", other.t))
			b, e := row.Encode(s, values(one.v, other.v))
			if e != api.OK || string(b) != one.b+other.b {
				t.Fatalf("Encode(%s; %.300s): %x, %d, want %x", columnKinds(s), exact(values(one.v, other.v)), b, e, one.b+other.b)
			}
			sameDecode(t, s, one.b+other.b, 0, api.OK)
		}
	}
	sixteen := wide(16)
	r := values(times(16, number(7))...)
	if b, e := row.Encode(sixteen, r); e != api.OK || string(b) != strings.Repeat("\x0e", 16) {
		t.Fatalf("Encode of sixteen: %x, %d", b, e)
	}
	sameEncode(t, sixteen, r, api.OK)
}

// TestDefaultsDoNotCount: P8.3 to P8.5: a column with a default wants a value, and its bytes are no others.
func TestDefaultsDoNotCount(t *testing.T) {
	s := of(with("a", ofInt, number(5)), with("b", optOf(ofText), opt(text("x"))))
	if b, e := row.Encode(s, values(number(-3), opt())); e != api.OK || string(b) != "\x05\x00" {
		t.Fatalf("Encode: %x, %d", b, e)
	}
	sameEncode(t, s, values(number(-3), opt()), api.OK)
	sameEncode(t, s, values(number(5)), api.ErrType)
	sameEncode(t, s, values(), api.ErrType)
	sameEncode(t, s, values(number(5), api.Value{}), api.ErrKind)
	sameDecode(t, s, "\x05", 0, api.ErrShort)
	sameDecode(t, s, "", 0, api.ErrShort)
}

// TestFloats: P8.1, P8.4, R6: each NaN, wherever it stands, is the one; -0 and +0 are not the same.
func TestFloats(t *testing.T) {
	const one = "\x00\x00\x00\x00\x00\x00\xf8\x7f"
	nested := listOf(optOf(ofFloat))
	for _, bits := range nanBits {
		v := list(opt(nan(bits)), opt(), opt(nan(bits)))
		if b, e := row.Encode(of(plain("f", ofFloat), plain("l", nested)), values(nan(bits), v)); e != api.OK || string(b) != one+"\x03\x01"+one+"\x00\x01"+one {
			t.Fatalf("Encode with the NaN %x: %x, %d", bits, b, e)
		}
		sameBoth(t, ofFloat, nan(bits), api.OK)
		sameBoth(t, nested, v, api.OK)
		back, _, e := row.DecodeValue(ofFloat, []byte(one), 0)
		if got := math.Float64bits(back.Float); e != api.OK || got != theNaN {
			t.Fatalf("DecodeValue of the NaN: %x, %d", got, e)
		}
	}
	told := map[string]float64{}
	for _, x := range otherFloats {
		sameBoth(t, ofFloat, float(x), api.OK)
		sameBoth(t, nested, list(opt(float(x))), api.OK)
		b, _ := row.EncodeValue(ofFloat, float(x))
		if before, is := told[string(b)]; is {
			t.Fatalf("%v and %v have the same bytes", before, x)
		}
		told[string(b)] = x
	}
}

// ofEachType are values, each of one of these types alone.
func ofEachType() []typed {
	return []typed{
		{ofBool, boolean(1), ""}, {ofInt, number(1), ""}, {ofFloat, float(1), ""}, {ofText, text("a"), ""}, {ofBytes, rawBytes("a"), ""},
		{optOf(ofInt), opt(number(1)), ""}, {optOf(ofBool), opt(boolean(1)), ""}, {listOf(ofInt), list(number(1), number(2)), ""}, {listOf(ofBool), list(boolean(0)), ""},
		{listOf(optOf(ofText)), list(opt(text("b")), opt()), ""}, {listOf(optOf(ofBytes)), list(opt(), opt(rawBytes("b"))), ""}, {optOf(listOf(ofInt)), opt(list(number(3))), ""},
		{within(3, api.List, ofInt), list(list(list(number(1)))), ""}, {within(3, api.List, ofFloat), list(list(list(float(minusZero)))), ""}, {within(3, api.Opt, ofText), opt(opt(opt(text("")))), ""},
		{within(2, api.List, ofInt), list(list(number(1))), ""},
	}
}

// TestOtherTypes: P8.1, P8.3: a value of each type under each type.
func TestOtherTypes(t *testing.T) {
	for i, a := range ofEachType() {
		for k, b := range ofEachType() {
			want := api.ErrType
			if i == k {
				want = api.OK
			}
			sameBoth(t, a.t, b.v, want)
		}
		sameBoth(t, a.t, api.Value{}, api.ErrKind)
	}
	sameBoth(t, listOf(ofInt), list(), api.OK)
	sameBoth(t, optOf(ofInt), opt(), api.OK)
	sameBoth(t, optOf(ofInt), list(), api.ErrType)
	sameBoth(t, listOf(ofInt), opt(), api.ErrType)
	for n := 1; n <= 20; n++ {
		for at := range n {
			items := times(n, number(3))
			items[at] = boolean(1)
			sameBoth(t, listOf(ofInt), list(items...), api.ErrType)
			sameBoth(t, within(2, api.List, ofInt), list(list(), list(items...)), api.ErrType)
			items[at] = boolean(2)
			sameBoth(t, listOf(ofInt), list(items...), api.ErrKind)
		}
	}
}

// wrongTypes are types that may not be, each with its error.
func wrongTypes() map[api.Errno][]api.Type {
	return map[api.Errno][]api.Type{
		api.ErrKind: {kind(0), kind(8), kind(-1), kind(math.MaxInt), kind(math.MinInt), kind(1<<32 + 2), kind(api.Opt), kind(api.List), kind(api.Opt, ofInt, ofInt), kind(api.List, ofInt, ofInt), kind(api.Int, ofInt), kind(api.Text, ofText), optOf(kind(8)), listOf(listOf(kind(0))), listOf(kind(api.Opt)), within(3, api.List, kind(8)), within(3, api.Opt, kind(api.Int, ofInt)), kind(9, within(9, api.List, ofInt))},
		api.ErrDeep: {within(4, api.List, ofInt), within(4, api.Opt, ofInt), listOf(optOf(listOf(optOf(ofText)))), within(4, api.List, kind(8)), within(4, api.Opt, kind(api.Int, ofInt)), within(60000, api.List, ofInt)},
	}
}

// wrongValues are values that may not be, each with its error.
func wrongValues() map[api.Errno][]api.Value {
	return map[api.Errno][]api.Value{
		api.ErrKind: {{}, {Kind: 8}, {Kind: -1}, {Kind: math.MaxInt}, {Kind: math.MinInt}, {Kind: 1<<32 + 2}, boolean(2), boolean(-1), boolean(256), boolean(math.MinInt64), {Kind: api.Int, Text: "a"}, {Kind: api.Int, Float: minusZero}, {Kind: api.Int, Int: 5, Float: math.NaN()}, {Kind: api.Float, Int: 1}, {Kind: api.Float, Float: 1, Text: "a"}, {Kind: api.Text, Text: "a", Int: 1}, {Kind: api.Bytes, Items: times(1, number(1))}, {Kind: api.Bool, Items: times(1, number(1))}, opt(number(1), number(1)), list(api.Value{}), opt(boolean(2)), list(number(1), boolean(2)), {Kind: api.List, Int: 1}, {Kind: api.Opt, Text: "a"}},
		api.ErrUtf:  {text("\xff"), text("a\xc3"), text("\xed\xa0\x80"), text("\xc0\x80"), text("\xf4\x90\x80\x80"), list(text("a"), text("\xc3")), opt(text("\xff"))},
		api.ErrLong: {text(strings.Repeat("a", 1025)), text(strings.Repeat("\xff", 1025)), rawBytes(strings.Repeat("a", 1025)), list(text("a"), text(strings.Repeat("a", 1025)))},
		api.ErrMany: {list(times(257, number(1))...), list(times(257, api.Value{})...), opt(list(times(257, text("\xff"))...))},
		api.ErrDeep: {list(list(list(list(number(1))))), opt(opt(opt(opt(opt())))), list(list(list(list(api.Value{}))))},
	}
}

// TestWrongTypes: P8.1, P8.2: a type that may not be has its error ahead of the value's, and of the bytes' and the place's.
func TestWrongTypes(t *testing.T) {
	for e, types := range wrongTypes() {
		for _, wrong := range types {
			if got := schema.CheckType(wrong); got != e {
				t.Fatalf("CheckType(%.40s): %d, want %d", kinds(wrong), got, e)
			}
			for _, one := range ofEachType() {
				sameEncodeValue(t, wrong, one.v, e)
			}
			for _, l := range wrongValues() {
				for _, v := range l {
					sameEncodeValue(t, wrong, v, e)
				}
			}
			sameEncodeValue(t, wrong, api.Value{Kind: wrong.Kind}, e)
			for _, at := range []int{math.MinInt, -1, 0, 1, 2, 3, math.MaxInt} {
				sameDecodeValue(t, wrong, "", at, e)
				sameDecodeValue(t, wrong, "\x01\xff", at, e)
			}
		}
	}
}

// TestWrongValues: P8.1, P8.3: a value that may not be has its own error ahead of ErrType.
func TestWrongValues(t *testing.T) {
	for e, l := range wrongValues() {
		for _, v := range l {
			for _, one := range ofEachType() {
				sameBoth(t, one.t, v, e)
			}
			for _, types := range wrongTypes() {
				s := alone(types[0])
				sameEncode(t, s, values(v), schema.Check(s))
			}
		}
	}
}

// wrongSchemas are schemas that may not be, each with its error.
func wrongSchemas() map[api.Errno]api.Schema {
	long := of(with("a", ofBytes, rawBytes(strings.Repeat("a", 1018))))
	return map[api.Errno]api.Schema{
		api.ErrEmpty: of(), api.ErrMany: wide(17), api.ErrName: of(plain("A", ofInt)), api.ErrTwice: of(plain("a", ofInt), plain("a", ofInt)), api.ErrKind: alone(kind(8)), api.ErrDeep: alone(within(4, api.List, ofInt)),
		api.ErrType: of(with("a", ofInt, text("a"))), api.ErrUtf: of(with("a", ofText, text("\xff"))), api.ErrLong: long,
	}
}

// TestWrongSchemas: P8.3 to P8.5: a schema that may not be has its error ahead of all that a row, bytes and places have.
func TestWrongSchemas(t *testing.T) {
	for e, s := range wrongSchemas() {
		if got := schema.Check(s); got != e {
			t.Fatalf("schema.Check: %d, want %d", got, e)
		}
		for n := range 19 {
			sameEncode(t, s, values(times(n, number(1))...), e)
			sameEncode(t, s, values(times(n, text("\xff"))...), e)
			sameEncode(t, s, values(times(n, rawBytes(strings.Repeat("a", 1024)))...), e)
		}
		for _, at := range []int{math.MinInt, -1, 0, 1, 2, 3, math.MaxInt} {
			for _, b := range []string{"", "\x01", "\x80\x00", strings.Repeat("\x01", 20), strings.Repeat("\xff", 2000)} {
				sameDecode(t, s, b, at, e)
			}
		}
	}
}

// TestHowManyValues: P8.3, P8.4: as many Values as columns, and other numbers of them, ahead of all that the values have.
func TestHowManyValues(t *testing.T) {
	for columns := 1; columns <= 16; columns++ {
		s := wide(columns)
		for n := range 40 {
			want := api.ErrType
			if n == columns {
				want = api.OK
			}
			sameEncode(t, s, values(times(n, number(-1))...), want)
			if n == columns {
				continue
			}
			for _, v := range []api.Value{{}, text("\xff"), text("a"), list(times(257, number(1))...), rawBytes(strings.Repeat("a", 1025))} {
				sameEncode(t, s, values(times(n, v)...), api.ErrType)
			}
		}
		sameEncode(t, s, api.Row{}, api.ErrType)
		sameEncode(t, s, api.Row{Values: []api.Value{}}, api.ErrType)
	}
}

// TestFirstColumn: P8.3, P8.4: of several columns the first one's error, and the length's behind all of them.
func TestFirstColumn(t *testing.T) {
	s := of(plain("a", ofBytes), plain("b", ofText), plain("c", ofInt), plain("d", listOf(ofInt)))
	right := []api.Value{rawBytes("a"), text("b"), number(1), list(number(2))}
	long := []api.Value{rawBytes(strings.Repeat("a", 1024)), text(strings.Repeat("b", 1024)), number(1), list(times(256, number(math.MaxInt64))...)}
	wrong := map[api.Errno]api.Value{api.ErrKind: {}, api.ErrUtf: text("\xff"), api.ErrLong: rawBytes(strings.Repeat("a", 1025)), api.ErrMany: list(times(257, text("\xff"))...), api.ErrDeep: list(list(list(list(list())))), api.ErrType: opt(number(1))}
	for e, v := range wrong {
		for other, w := range wrong {
			for at := range 4 {
				for later := at + 1; later < 4; later++ {
					for _, others := range [][]api.Value{right, long} {
						l := slices.Clone(others)
						l[at] = v
						sameEncode(t, s, values(l...), e)
						l[later] = w
						sameEncode(t, s, values(l...), e)
						l[at] = others[at]
						sameEncode(t, s, values(l...), other)
					}
				}
			}
		}
	}
	sameEncode(t, s, values(right...), api.OK)
	sameEncode(t, s, values(long...), api.ErrLong)
	for at := range 4 {
		l := slices.Clone(right)
		l[at] = long[at]
		want := api.ErrLong
		if at == 2 {
			want = api.OK
		}
		sameEncode(t, s, values(l...), want)
	}
}

// fills make, of each kind that can be long, a type and a value whose bytes grow with n.
func fills() []func(n int) (api.Type, api.Value) {
	return []func(n int) (api.Type, api.Value){
		func(n int) (api.Type, api.Value) { return ofText, text(strings.Repeat("a", n)) },
		func(n int) (api.Type, api.Value) { return ofBytes, rawBytes(strings.Repeat("\xff", n)) },
		func(n int) (api.Type, api.Value) { return optOf(ofText), opt(text(strings.Repeat("a", n))) },
		func(n int) (api.Type, api.Value) {
			return listOf(ofBytes), list(append(times(200, rawBytes("ab")), rawBytes(strings.Repeat("c", n)))...)
		},
		func(n int) (api.Type, api.Value) {
			return within(2, api.List, ofBool), list(append(times(n/200, list(times(199, boolean(1))...)), list(times(n%200, boolean(1))...))...)
		},
	}
}

// longOf is a row with just that many bytes, and its schema: columns of the others, one that fills, and the others again.
func longOf(t *testing.T, total int, others []typed, fill func(n int) (api.Type, api.Value)) pair {
	t.Helper()
	of := func(n int) (pair, int) {
		middle, v := fill(n)
		one, size := pair{s: wide(2*len(others) + 1)}, 0
		for i, each := range slices.Concat(others, []typed{{t: middle, v: v}}, others) {
			one.s.Columns[i].Type = each.t
			one.r.Values = append(one.r.Values, each.v)
			size += len(wordValue(nil, each.v))
		}
		return one, size
	}
	one, size := of(sort.Search(total, func(n int) bool {
		_, size := of(n)
		return size >= total
	}))
	if size != total {
		t.Fatalf("no row of %d bytes", total)
	}
	return one
}

// TestLong: P8.3, P8.4: rows of MaxRow bytes and one more.
func TestLong(t *testing.T) {
	for _, fill := range fills() {
		for _, others := range [][]typed{nil, {{t: ofInt, v: number(math.MinInt64)}}, {{t: ofFloat, v: nan(math.MaxUint64)}, {t: listOf(ofInt), v: list(number(1))}, {t: ofBool, v: boolean(1)}}} {
			for total := 1020; total <= 1030; total++ {
				want := api.OK
				if total > 1024 {
					want = api.ErrLong
				}
				one := longOf(t, total, others, fill)
				sameEncode(t, one.s, one.r, want)
			}
		}
	}
	for n := range 257 {
		want := api.OK
		// How many in one byte, or in two.
		if size := 1 + n/128 + 8*n; n < 256 && size > 1024 || n == 256 {
			want = api.ErrLong
		}
		sameEncode(t, alone(listOf(ofFloat)), values(list(times(n, float(minusZero))...)), want)
	}
	sixteen := wide(16)
	for i := range sixteen.Columns {
		sixteen.Columns[i].Type = ofBytes
	}
	l := times(16, rawBytes(strings.Repeat("x", 63)))
	sameEncode(t, sixteen, values(l...), api.OK)
	for i := range l {
		longer := slices.Clone(l)
		longer[i].Text += "x"
		sameEncode(t, sixteen, values(longer...), api.ErrLong)
	}
}

// TestLongValues: P8.1, P8.2: a value alone may have more than MaxRow bytes.
func TestLongValues(t *testing.T) {
	for _, one := range []typed{
		{t: ofText, v: text(strings.Repeat("a", 1022))}, {t: ofText, v: text(strings.Repeat("a", 1023))}, {t: ofText, v: text(strings.Repeat("a", 1024))}, {t: ofBytes, v: rawBytes(strings.Repeat("\xff", 1024))},
		{t: listOf(ofFloat), v: list(times(256, float(minusZero))...)}, {t: listOf(ofBytes), v: list(times(256, rawBytes(strings.Repeat("b", 1024)))...)}, {t: within(3, api.List, ofBool), v: list(times(20, list(times(20, list(times(20, boolean(1))...))...))...)},
	} {
		sameEncodeValue(t, one.t, one.v, api.OK)
	}
	sameEncodeValue(t, ofText, text(strings.Repeat("a", 1025)), api.ErrLong)
	if b, e := row.EncodeValue(ofText, text(strings.Repeat("a", 1024))); e != api.OK || len(b) != 1026 {
		t.Fatalf("EncodeValue of 1024: %d bytes, %d", len(b), e)
	}
}

// TestVeryLong: P8.3, P8.4, R1: a row that would have billions of bytes is too long, and told so soon.
func TestVeryLong(t *testing.T) {
	items := func(v api.Value) api.Value { return list(times(256, v)...) }
	s := alone(within(3, api.List, ofBytes))
	r := values(items(items(items(rawBytes(strings.Repeat("b", 1024))))))
	if e := row.Check(s, r); e != api.ErrLong {
		t.Fatalf("Check: %d", e)
	}
	if b, e := row.Encode(s, r); e != api.ErrLong || len(b) != 0 {
		t.Fatalf("Encode: %d bytes, %d", len(b), e)
	}
}

// TestMixed: P8.1 to P8.6: mixed schemas with rows, right ones and wrong ones; among them each error often.
func TestMixed(t *testing.T) {
	seen := map[api.Errno]int{}
	for _, one := range manyPairs() {
		asEncoded(t, one.s, one.r)
		seen[row.Check(one.s, one.r)]++
		for i, v := range one.r.Values {
			if i < len(one.s.Columns) {
				of := one.s.Columns[i].Type
				_, e := wordEncodeValue(of, v)
				sameEncodeValue(t, of, v, e)
			}
		}
	}
	for e, least := range map[api.Errno]int{api.OK: 1000, api.ErrKind: 100, api.ErrType: 50, api.ErrUtf: 5, api.ErrLong: 20, api.ErrMany: 5, api.ErrDeep: 20, api.ErrTwice: 10} {
		if seen[e] < least {
			t.Errorf("only %d with the error %d", seen[e], e)
		}
	}
}
