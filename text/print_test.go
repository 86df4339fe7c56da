package text_test

import (
	"fmt"
	"math"
	"strings"
	"testing"

	"gabion/api"
	"gabion/schema"
	"gabion/value"
)

// TestPrintType: P21.1: each kind, alone and within others, and all types that may be.
func TestPrintType(t *testing.T) {
	for k, s := range []string{api.Bool: "bool", api.Int: "int", api.Float: "float", api.Text: "text", api.Bytes: "bytes"} {
		if k == api.None {
			continue
		}
		samePrint(t, kind(k), s, api.OK)
		samePrint(t, optOf(kind(k)), "opt("+s+")", api.OK)
		samePrint(t, listOf(kind(k)), "list("+s+")", api.OK)
		samePrint(t, listOf(optOf(kind(k))), "list(opt("+s+"))", api.OK)
		samePrint(t, optOf(listOf(listOf(kind(k)))), "opt(list(list("+s+")))", api.OK)
		samePrint(t, optOf(optOf(optOf(kind(k)))), "opt(opt(opt("+s+")))", api.OK)
	}
	for _, one := range allTypes() {
		samePrint(t, one, wordType(one), api.OK)
	}
}

// refusedTypes are types that may not be, by their errors.
func refusedTypes() map[api.Errno][]api.Type {
	return map[api.Errno][]api.Type{
		api.ErrKind: {{}, kind(8), kind(-1), kind(math.MaxInt), kind(api.Int, ofInt), kind(api.Opt), kind(api.List), kind(api.List, ofInt, ofInt), listOf(optOf(kind(9)))},
		api.ErrDeep: {listOf(listOf(listOf(listOf(ofInt)))), listOf(listOf(optOf(optOf(optOf(ofInt))))), listOf(listOf(optOf(optOf(kind(0)))))},
	}
}

// TestPrintTypeRefused: P21.1: each error of schema.CheckType.
func TestPrintTypeRefused(t *testing.T) {
	for e, l := range refusedTypes() {
		for _, one := range l {
			if schema.CheckType(one) != e {
				t.Fatalf("%s: schema.CheckType: %d", exact(one), schema.CheckType(one))
			}
			refusedPrint(t, one, e)
		}
	}
}

// TestPrintBoolAndInt: P21.1: both Bools; Ints of no digit but 0, below 0, about each power of ten, the least, the greatest.
func TestPrintBoolAndInt(t *testing.T) {
	samePrint(t, boolean(0), "false", api.OK)
	samePrint(t, boolean(1), "true", api.OK)
	for n, s := range map[int64]string{
		0: "0", 1: "1", -1: "-1", 9: "9", 10: "10", -10: "-10", 1000000: "1000000", -1000000: "-1000000", 1234567890: "1234567890",
		math.MaxInt64: "9223372036854775807", math.MaxInt64 - 1: "9223372036854775806", math.MinInt64: "-9223372036854775808", math.MinInt64 + 1: "-9223372036854775807",
	} {
		samePrint(t, number(n), s, api.OK)
	}
	for p := int64(1); p <= math.MaxInt64/10; p *= 10 {
		for _, n := range []int64{p - 1, p, p + 1, -p + 1, -p, -p - 1, 7 * p} {
			samePrint(t, number(n), wordValue(number(n)), api.OK)
		}
	}
	for n := int64(-2000); n < 2000; n++ {
		samePrint(t, number(n), wordValue(number(n)), api.OK)
	}
}

// TestPrintFloat: P21.1, R6: floats of each form, and each NaN as the one.
func TestPrintFloat(t *testing.T) {
	for _, bits := range nanBits {
		samePrint(t, nan(bits), "~nan", api.OK)
		samePrint(t, opt(nan(bits)), "some(~nan)", api.OK)
		samePrint(t, list(nan(bits), float(0)), "[~nan, ~0]", api.OK)
		samePrint(t, values(nan(bits), list(nan(bits))), "~nan, [~nan]", api.OK)
		samePrint(t, of(with("a", ofFloat, nan(bits))), "a float = ~nan", api.OK)
	}
	for _, one := range []struct {
		x float64
		s string
	}{
		{0, "~0"}, {minusZero, "~-0"}, {1, "~1"}, {-12, "~-12"}, {math.Inf(1), "~inf"}, {math.Inf(-1), "~-inf"}, {0.5, "~x3fe0000000000000"}, {-0.5, "~xbfe0000000000000"},
		{1<<53 - 1, "~9007199254740991"}, {1 - 1<<53, "~-9007199254740991"}, {1 << 53, "~x4340000000000000"}, {-1 << 53, "~xc340000000000000"},
		{math.MaxFloat64, "~x7fefffffffffffff"}, {math.SmallestNonzeroFloat64, "~x0000000000000001"},
	} {
		samePrint(t, float(one.x), one.s, api.OK)
	}
	for n := range uint64(5000) {
		v := nan(mixed(n))
		samePrint(t, v, wordValue(v), api.OK)
	}
}

// TestPrintQuoted: P21.1: each byte, alone and among others, in Bytes, and in Text where it is right UTF-8.
func TestPrintQuoted(t *testing.T) {
	for b := range 256 {
		c := string([]byte{byte(b)})
		hex := fmt.Sprintf(`\x%02x`, b)
		inText, inBytes := hex, hex
		if b >= 0x20 && b <= 0x7e {
			inText, inBytes = c, c
		}
		switch b {
		case '"':
			inText = `\"`
		case '\'':
			inBytes = `\'`
		case '\\':
			inText, inBytes = `\\`, `\\`
		}
		samePrint(t, rawBytes(c), `'`+inBytes+`'`, api.OK)
		samePrint(t, rawBytes("a"+c+c+"0"), `'a`+inBytes+inBytes+`0'`, api.OK)
		if b < 0x80 {
			samePrint(t, words(c), `"`+inText+`"`, api.OK)
			samePrint(t, words("a"+c+c+"0"), `"a`+inText+inText+`0"`, api.OK)
		} else {
			refusedPrint(t, words(c), api.ErrUtf)
			refusedPrint(t, words("a"+c), api.ErrUtf)
			refusedPrint(t, words("\u00e9"+c), api.ErrUtf)
		}
	}
	samePrint(t, words(""), `""`, api.OK)
	samePrint(t, rawBytes(""), `''`, api.OK)
	samePrint(t, words("\u00e9\u20ac\U0001f600\ufffd"), `"\xc3\xa9\xe2\x82\xac\xf0\x9f\x98\x80\xef\xbf\xbd"`, api.OK)
	samePrint(t, rawBytes("\u00e9"), `'\xc3\xa9'`, api.OK)
	samePrint(t, words(`it's "x" \n`), `"it's \"x\" \\n"`, api.OK)
	samePrint(t, rawBytes(`it's "x" \n`), `'it\'s "x" \\n'`, api.OK)
	samePrint(t, words(`\x41`), `"\\x41"`, api.OK)
}

// TestPrintWithin: P21.1: Opts, Lists of no item, of one, of several, within one another.
func TestPrintWithin(t *testing.T) {
	samePrint(t, opt(), "none", api.OK)
	samePrint(t, opt(number(1)), "some(1)", api.OK)
	samePrint(t, opt(opt()), "some(none)", api.OK)
	samePrint(t, opt(opt(opt())), "some(some(none))", api.OK)
	samePrint(t, opt(opt(opt(words("a")))), `some(some(some("a")))`, api.OK)
	samePrint(t, list(), "[]", api.OK)
	samePrint(t, list(number(1)), "[1]", api.OK)
	samePrint(t, list(number(1), number(-2), number(3)), "[1, -2, 3]", api.OK)
	samePrint(t, list(list(), list()), "[[], []]", api.OK)
	samePrint(t, list(list(list(list()))), "[[[[]]]]", api.OK)
	samePrint(t, list(list(list(number(1), number(2)), list()), list()), "[[[1, 2], []], []]", api.OK)
	samePrint(t, list(opt(), opt(list(boolean(1)))), "[none, some([true])]", api.OK)
	samePrint(t, opt(list(opt(), opt(boolean(0)))), "some([none, some(false)])", api.OK)
	// Of which kinds a list's Items are nobody asks here.
	samePrint(t, list(number(1), words("a"), rawBytes("a"), opt(), list(), float(1), boolean(0)), `[1, "a", 'a', none, [], ~1, false]`, api.OK)
}

// TestPrintLimits: P21.1: what is at a limit is printed.
func TestPrintLimits(t *testing.T) {
	long := strings.Repeat("a", api.MaxText)
	samePrint(t, words(long), `"`+long+`"`, api.OK)
	samePrint(t, rawBytes(strings.Repeat("\xff", api.MaxText)), `'`+strings.Repeat(`\xff`, api.MaxText)+`'`, api.OK)
	samePrint(t, words(strings.Repeat("\"", api.MaxText)), `"`+strings.Repeat(`\"`, api.MaxText)+`"`, api.OK)
	samePrint(t, list(times(api.MaxItems, number(7))...), "["+joined(api.MaxItems, "7")+"]", api.OK)
	samePrint(t, list(times(200, list(times(200, opt())...))...), "["+joined(200, "["+joined(200, "none")+"]")+"]", api.OK)
	samePrint(t, values(times(5000, boolean(1))...), joined(5000, "true"), api.OK)
	samePrint(t, wide(api.MaxColumns), wideText(api.MaxColumns), api.OK)
}

// refusedValues are values that may not be, by their errors.
func refusedValues() map[api.Errno][]api.Value {
	return map[api.Errno][]api.Value{
		api.ErrKind: {
			{}, {Kind: -1}, {Kind: 8}, {Kind: math.MaxInt}, boolean(2), boolean(-1), opt(number(1), number(2)), {Kind: api.Int, Text: "a"}, {Kind: api.Int, Float: minusZero}, {Kind: api.Float, Int: 1},
			{Kind: api.Text, Items: []api.Value{number(1)}}, {Kind: api.Bytes, Int: 1}, {Kind: api.List, Text: "a"}, {Kind: api.Opt, Int: 1}, list(number(1), api.Value{}), opt(boolean(5)), list(list(list(api.Value{Kind: 9}))),
		},
		api.ErrLong: {words(strings.Repeat("a", api.MaxText+1)), rawBytes(strings.Repeat("a", api.MaxText+1)), words(strings.Repeat("\xff", api.MaxText+1)), list(words(strings.Repeat("a", api.MaxText+1)))},
		api.ErrMany: {list(times(api.MaxItems+1, number(1))...), list(times(api.MaxItems+1, api.Value{})...), opt(list(times(api.MaxItems+1, number(1))...))},
		api.ErrUtf:  {words("\xff"), words("a\xc3"), words("\xed\xa0\x80"), opt(words("\xff")), list(words(""), words("\xff"), api.Value{})},
		api.ErrDeep: {list(list(list(list(number(1))))), opt(opt(opt(opt(opt())))), list(opt(list(opt(api.Value{})))), list(number(1), list(list(list(list()))))},
	}
}

// TestPrintValueRefused: P21.1: each error of value.Check, of a value, and of a row that of the first value which is refused.
func TestPrintValueRefused(t *testing.T) {
	right := []api.Value{number(1), words("a"), opt(), list(list())}
	for e, l := range refusedValues() {
		for _, v := range l {
			if value.Check(v) != e {
				t.Fatalf("%.300s: value.Check: %d", exact(v), value.Check(v))
			}
			refusedPrint(t, v, e)
			for n := range len(right) + 1 {
				ahead := append([]api.Value{}, right[:n]...)
				refusedPrint(t, values(append(ahead, v)...), e)
				refusedPrint(t, values(append(append(ahead, v), right[n:]...)...), e)
				for other, wrongs := range refusedValues() {
					refusedPrint(t, values(append(append(ahead, v), wrongs[0])...), e)
					refusedPrint(t, values(append(append(ahead, wrongs[0]), v)...), other)
				}
			}
		}
	}
}

// TestPrintRow: P21.1: rows of no value, of one, of several.
func TestPrintRow(t *testing.T) {
	samePrint(t, api.Row{}, "", api.OK)
	samePrint(t, values([]api.Value{}...), "", api.OK)
	samePrint(t, values(number(1)), "1", api.OK)
	samePrint(t, values(words("")), `""`, api.OK)
	samePrint(t, values(list()), "[]", api.OK)
	samePrint(t, values(boolean(1), number(-2), float(0.5), words("a, b"), rawBytes("'"), opt(), opt(number(3)), list(number(4), number(5))), `true, -2, ~x3fe0000000000000, "a, b", '\'', none, some(3), [4, 5]`, api.OK)
	samePrint(t, values(list(list(list(list())))), "[[[[]]]]", api.OK)
}

// TestPrintSchema: P21.1: schemas of one column, of several, with and without a default of each kind.
func TestPrintSchema(t *testing.T) {
	samePrint(t, of(plain("a", ofInt)), "a int", api.OK)
	samePrint(t, of(plain("a_0z", optOf(listOf(ofText)))), "a_0z opt(list(text))", api.OK)
	samePrint(t, of(plain("int", ofInt), plain("opt", optOf(ofBool))), "int int, opt opt(bool)", api.OK)
	samePrint(t, of(plain("abcdefghijklmnop", ofInt)), "abcdefghijklmnop int", api.OK)
	samePrint(t, of(with("a", ofBool, boolean(0)), plain("b", ofInt), with("c", ofInt, number(-5))), "a bool = false, b int, c int = -5", api.OK)
	samePrint(t, of(with("a", ofFloat, float(minusZero)), with("b", ofText, words(`=, "`)), with("c", ofBytes, rawBytes("\x00'"))), `a float = ~-0, b text = "=, \"", c bytes = '\x00\''`, api.OK)
	samePrint(t, of(with("a", optOf(ofInt), opt()), with("b", optOf(ofInt), opt(number(1)))), "a opt(int) = none, b opt(int) = some(1)", api.OK)
	samePrint(t, of(with("a", listOf(ofInt), list()), with("b", listOf(optOf(ofInt)), list(opt(), opt(number(2))))), "a list(int) = [], b list(opt(int)) = [none, some(2)]", api.OK)
	samePrint(t, of(with("a", listOf(listOf(listOf(ofInt))), list(list(list(number(1)))))), "a list(list(list(int))) = [[[1]]]", api.OK)
	for _, one := range allTypes() {
		samePrint(t, of(plain("x", one), plain("y", one)), "x "+wordType(one)+", y "+wordType(one), api.OK)
	}
}

// refusedSchemas are schemas that may not be, by their errors.
func refusedSchemas() map[api.Errno][]api.Schema {
	big := words(strings.Repeat("a", 600))
	return map[api.Errno][]api.Schema{
		api.ErrEmpty: {{}},
		api.ErrMany:  {wide(17), of(with("a", listOf(ofInt), list(times(257, number(1))...)))},
		api.ErrName:  {of(plain("", ofInt)), of(plain("A", ofInt)), of(plain("a b", ofInt)), of(plain("9", ofInt)), of(plain("abcdefghijklmnopq", ofInt)), of(plain("a", ofInt), plain("_", ofInt))},
		api.ErrTwice: {of(plain("a", ofInt), plain("a", ofInt)), of(plain("a", ofInt), plain("b", ofInt), plain("a", kind(9)))},
		api.ErrKind:  {of(plain("a", kind(0))), of(plain("a", kind(8))), of(plain("a", kind(api.List))), of(with("a", ofBool, boolean(2)))},
		api.ErrDeep:  {of(plain("a", listOf(listOf(listOf(listOf(ofInt)))))), of(with("a", listOf(ofInt), list(list(list(list(number(1)))))))},
		api.ErrType:  {of(with("a", ofInt, words("x"))), of(with("a", listOf(ofInt), list(number(1), opt()))), of(api.Column{Name: "a", Type: ofInt, Default: number(0)}), of(api.Column{Name: "a", Type: ofInt, Default: api.Value{Float: minusZero}})},
		api.ErrUtf:   {of(with("a", ofText, words("\xff")))},
		api.ErrLong:  {of(with("a", ofText, big), with("b", ofText, big)), of(with("a", ofText, words(strings.Repeat("a", 1025))))},
	}
}

// TestPrintSchemaRefused: P21.1: each error of schema.Check.
func TestPrintSchemaRefused(t *testing.T) {
	for e, l := range refusedSchemas() {
		for _, s := range l {
			if schema.Check(s) != e {
				t.Fatalf("%.300s: schema.Check: %d", exact(s), schema.Check(s))
			}
			refusedPrint(t, s, e)
		}
	}
}

// TestPrintLongSchema: P21.1: a schema of MaxSchema bytes is printed, one of a byte more is not.
func TestPrintLongSchema(t *testing.T) {
	// Seven bytes stand ahead of the text: 01, 01 61, 04, 01, and two of its length.
	fits := strings.Repeat("x", api.MaxSchema-7)
	samePrint(t, of(with("a", ofText, words(fits))), `a text = "`+fits+`"`, api.OK)
	refusedPrint(t, of(with("a", ofText, words(fits+"x"))), api.ErrLong)
}
