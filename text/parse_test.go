package text_test

import (
	"fmt"
	"math"
	"strings"
	"testing"

	"gabion/api"
)

// told is a text that is refused, why, and where.
type told struct {
	s  string
	e  api.Errno
	at int
}

func refusedAll(t *testing.T, what string, l []told) {
	t.Helper()
	for _, one := range l {
		refused(t, what, one.s, one.e, one.at)
	}
}

// TestParseType: P21.2, P21.3: the text of each type.
func TestParseType(t *testing.T) {
	sameParse(t, "bool", ofBool)
	sameParse(t, "int", ofInt)
	sameParse(t, "float", ofFloat)
	sameParse(t, "text", ofText)
	sameParse(t, "bytes", ofBytes)
	sameParse(t, "opt(int)", optOf(ofInt))
	sameParse(t, "list(text)", listOf(ofText))
	sameParse(t, "list(opt(list(bytes)))", listOf(optOf(listOf(ofBytes))))
	for _, one := range allTypes() {
		sameParse(t, wordType(one), one)
	}
}

// TestParseTypeRefused: P21.2: words that are none, what is missing, what is too much, what is too deep.
func TestParseTypeRefused(t *testing.T) {
	refusedAll(t, "type", []told{
		{"", api.ErrForm, 0}, {" ", api.ErrForm, 0}, {" int", api.ErrForm, 0}, {"int ", api.ErrForm, 3}, {"int\x00", api.ErrForm, 3}, {"int1", api.ErrForm, 3}, {"int_", api.ErrForm, 3}, {"int(", api.ErrForm, 3}, {"int(int)", api.ErrForm, 3}, {"int)", api.ErrForm, 3},
		{"i", api.ErrForm, 0}, {"in", api.ErrForm, 0}, {"ints", api.ErrForm, 0}, {"intint", api.ErrForm, 0}, {"Int", api.ErrForm, 0}, {"inT", api.ErrForm, 0}, {"INT", api.ErrForm, 0}, {"true", api.ErrForm, 0}, {"none", api.ErrForm, 0}, {"boolean", api.ErrForm, 0}, {"byte", api.ErrForm, 0}, {"5", api.ErrForm, 0}, {"(", api.ErrForm, 0}, {"\u00e9", api.ErrForm, 0}, {"int\u00e9", api.ErrForm, 3}, {"\xff", api.ErrForm, 0}, {"int\xff", api.ErrForm, 3},
		{"opt", api.ErrForm, 3}, {"opt(", api.ErrForm, 4}, {"opt()", api.ErrForm, 4}, {"opt(int", api.ErrForm, 7}, {"opt(int ", api.ErrForm, 7}, {"opt(int ) ", api.ErrForm, 7}, {"opt(int))", api.ErrForm, 8}, {"opt (int)", api.ErrForm, 3}, {"opt( int)", api.ErrForm, 4}, {"opt[int]", api.ErrForm, 3}, {"opt(int]", api.ErrForm, 7}, {"opt(int,", api.ErrForm, 7}, {"opts(int)", api.ErrForm, 0}, {"opt(ints)", api.ErrForm, 4}, {"optint", api.ErrForm, 0}, {"opt\xff(int)", api.ErrForm, 3},
		{"list", api.ErrForm, 4}, {"list(", api.ErrForm, 5}, {"list()", api.ErrForm, 5}, {"list(opt)", api.ErrForm, 8}, {"list(opt(int)", api.ErrForm, 13}, {"list(opt(int))x", api.ErrForm, 14}, {"list(opt(Int))", api.ErrForm, 9}, {"lists(int)", api.ErrForm, 0},
	})
}

// TestParseTypeDeep: P21.2: types at MaxDepth are taken, the one that is deeper is refused where it stands, whatever stands there.
func TestParseTypeDeep(t *testing.T) {
	for k := range 16 {
		outer, ends, want := "", "", ofText
		for n := range 4 {
			outer += []string{"opt(", "list("}[k>>n&1]
			ends += ")"
		}
		for n := range 3 {
			want = kind(6+k>>(2-n)&1, want)
		}
		three, _ := cutLast(outer, "(")
		sameParse(t, three+"text)))", want)
		refused(t, "type", outer+"text"+ends, api.ErrDeep, len(outer))
		for _, behind := range []string{"", "int", "in", " ", ")", "(", "\xff", "opt(int)))))", "Int"} {
			refused(t, "type", outer+behind, api.ErrDeep, len(outer))
		}
		refused(t, "type", outer[:len(outer)-1], api.ErrForm, len(outer)-1)
		refused(t, "type", outer[:len(outer)-1]+")", api.ErrForm, len(outer)-1)
		refused(t, "schema", "a "+outer+"text"+ends, api.ErrDeep, 2+len(outer))
		refused(t, "schema", "a int, b "+outer, api.ErrDeep, 9+len(outer))
	}
	refused(t, "type", strings.Repeat("opt(", 100000), api.ErrDeep, 16)
	refused(t, "type", strings.Repeat("list(", 100000), api.ErrDeep, 20)
}

// cutLast is s without its last word and the bracket behind it.
func cutLast(s, bracket string) (string, string) {
	s = strings.TrimSuffix(s, bracket)
	at := strings.LastIndex(s, bracket) + len(bracket)
	return s[:at], s[at:]
}

// TestParseWords: P21.2, P21.3: Bools and Opts; words that are none, or longer than one that may stand there.
func TestParseWords(t *testing.T) {
	sameParse(t, "true", boolean(1))
	sameParse(t, "false", boolean(0))
	sameParse(t, "none", opt())
	sameParse(t, "some(true)", opt(boolean(1)))
	sameParse(t, "some(none)", opt(opt()))
	sameParse(t, "some(some(some(none)))", opt(opt(opt(opt()))))
	sameParse(t, `some("a")`, opt(words("a")))
	sameParse(t, "some([none, some(1)])", opt(list(opt(), opt(number(1)))))
	refusedAll(t, "value", []told{
		{"", api.ErrForm, 0}, {" ", api.ErrForm, 0}, {" true", api.ErrForm, 0}, {"true ", api.ErrForm, 4}, {"true,", api.ErrForm, 4}, {"true, true", api.ErrForm, 4}, {"true1", api.ErrForm, 4}, {"true\x00", api.ErrForm, 4}, {"true\xff", api.ErrForm, 4}, {"true()", api.ErrForm, 4}, {"none(1)", api.ErrForm, 4}, {"none)", api.ErrForm, 4},
		{"t", api.ErrForm, 0}, {"tru", api.ErrForm, 0}, {"truex", api.ErrForm, 0}, {"truetrue", api.ErrForm, 0}, {"True", api.ErrForm, 0}, {"TRUE", api.ErrForm, 0}, {"trUe", api.ErrForm, 0}, {"fals", api.ErrForm, 0}, {"falsey", api.ErrForm, 0}, {"non", api.ErrForm, 0}, {"nonea", api.ErrForm, 0}, {"None", api.ErrForm, 0}, {"int", api.ErrForm, 0}, {"opt", api.ErrForm, 0}, {"list(1)", api.ErrForm, 0}, {"nan", api.ErrForm, 0}, {"inf", api.ErrForm, 0}, {"x3fe0000000000000", api.ErrForm, 0}, {"a", api.ErrForm, 0}, {"z", api.ErrForm, 0},
		{"some", api.ErrForm, 4}, {"som", api.ErrForm, 0}, {"somes(1)", api.ErrForm, 0}, {"some(", api.ErrForm, 5}, {"some()", api.ErrForm, 5}, {"some(1", api.ErrForm, 6}, {"some(1 )", api.ErrForm, 6}, {"some( 1)", api.ErrForm, 5}, {"some (1)", api.ErrForm, 4}, {"some(1))", api.ErrForm, 7}, {"some(1, 2)", api.ErrForm, 6}, {"some[1]", api.ErrForm, 4}, {"some(1]", api.ErrForm, 6}, {"some(x)", api.ErrForm, 5}, {"some(01)", api.ErrForm, 5}, {"some(none", api.ErrForm, 9}, {"some(some(1)", api.ErrForm, 12}, {"some1", api.ErrForm, 4},
		{"(", api.ErrForm, 0}, {")", api.ErrForm, 0}, {",", api.ErrForm, 0}, {"]", api.ErrForm, 0}, {"{", api.ErrForm, 0}, {"`", api.ErrForm, 0}, {"@", api.ErrForm, 0}, {"+", api.ErrForm, 0}, {"+1", api.ErrForm, 0}, {".5", api.ErrForm, 0}, {"/", api.ErrForm, 0}, {":", api.ErrForm, 0}, {"_", api.ErrForm, 0}, {"\\", api.ErrForm, 0}, {"\x00", api.ErrForm, 0}, {"\u00e9", api.ErrForm, 0}, {"\xe9", api.ErrForm, 0}, {"\ufffd", api.ErrForm, 0},
	})
}

// TestParseInt: P21.2, P21.3: digits with a 0 ahead, signs, the least, the greatest, what is beyond them.
func TestParseInt(t *testing.T) {
	for s, n := range map[string]int64{
		"0": 0, "1": 1, "-1": -1, "9": 9, "10": 10, "-10": -10, "100": 100, "123456789": 123456789, "9223372036854775807": math.MaxInt64, "-9223372036854775808": math.MinInt64, "9223372036854775806": math.MaxInt64 - 1, "-9223372036854775807": math.MinInt64 + 1,
	} {
		sameParse(t, s, number(n))
		sameParse(t, "some("+s+")", opt(number(n)))
		sameParse(t, "["+s+", "+s+"]", list(number(n), number(n)))
	}
	for _, s := range []string{
		"00", "01", "-", "--", "-0", "-00", "-01", "--1", "1-", "1-1", "-1-", "0-", "0-1", "-0-", "---1", "007", "0000000000000000000000001", "-0000000000000000000000001",
		"9223372036854775808", "-9223372036854775809", "9223372036854775817", "10000000000000000000", "18446744073709551616", "18446744073709551617", "-18446744073709551615", "99999999999999999999999999", "-99999999999999999999999999", strings.Repeat("9", 5000), "-" + strings.Repeat("1", 5000), strings.Repeat("-", 5000), strings.Repeat("0", 5000),
	} {
		refused(t, "value", s, api.ErrForm, 0)
		refused(t, "value", s+" ", api.ErrForm, 0)
		refused(t, "value", "some("+s+")", api.ErrForm, 5)
		refused(t, "value", "[1, "+s, api.ErrForm, 4)
		refused(t, "row", "1, -2, "+s+", 4", api.ErrForm, 7)
		refused(t, "schema", "a int = "+s+"!", api.ErrForm, 8)
	}
	refusedAll(t, "value", []told{{"1 ", api.ErrForm, 1}, {"1.0", api.ErrForm, 1}, {"1e5", api.ErrForm, 1}, {"12a", api.ErrForm, 2}, {"1_0", api.ErrForm, 1}, {"0x10", api.ErrForm, 1}, {"- 1", api.ErrForm, 0}, {"-a", api.ErrForm, 0}, {"-inf", api.ErrForm, 0}, {"1+", api.ErrForm, 1}, {"1\xff", api.ErrForm, 1}, {"1/", api.ErrForm, 1}, {"1:", api.ErrForm, 1}, {"1~", api.ErrForm, 1}, {"1\u0660", api.ErrForm, 1}, {"\u0661", api.ErrForm, 0}})
}

// TestParseFloat: P21.2, P21.3: floats, what real.Parse refuses, and signs that end the row.
func TestParseFloat(t *testing.T) {
	for s, x := range map[string]float64{
		"~0": 0, "~1": 1, "~-1": -1, "~-12": -12, "~inf": math.Inf(1), "~-inf": math.Inf(-1), "~-0": minusZero, "~nan": math.Float64frombits(theNaN), "~x3fe0000000000000": 0.5, "~xbfe0000000000000": -0.5, "~9007199254740991": 1<<53 - 1, "~-9007199254740991": 1 - 1<<53, "~x4340000000000000": 1 << 53, "~x0000000000000001": math.SmallestNonzeroFloat64,
	} {
		sameParse(t, s, float(x))
		sameParse(t, "["+s+"]", list(float(x)))
		sameParse(t, s+", "+s, values(float(x), float(x)))
		sameParse(t, "a float = "+s, of(with("a", ofFloat, float(x))))
	}
	for _, s := range []string{
		"", "-", "--0", "-nan", "nans", "na", "infx", "--inf", "01", "00", "-00", "1-", "1e5", "e", "x", "x3fe", "x3ff0000000000000", "x0000000000000000", "x8000000000000000", "x7ff0000000000000", "xfff0000000000000", "x7ff8000000000000", "xfff8000000000000", "x7ff8000000000001", "x03fe0000000000000", "x3fe00000000000000", "x3fe000000000000g", "x-fe0000000000000", "-x3fe0000000000000", "3fe0000000000000", "9007199254740992", "-9007199254740992", "9007199254740993", "99999999999999999999", "true", "none",
	} {
		refused(t, "value", "~"+s, api.ErrForm, 1)
		refused(t, "value", "[~0, ~"+s+"]", api.ErrForm, 6)
		refused(t, "row", "~"+s+", 01", api.ErrForm, 1)
		for _, sign := range []string{" ", ".", "_", "A", "\xff", "~", "+", "\x00", "\u00e9"} {
			refused(t, "value", "~"+s+sign, api.ErrForm, 1)
		}
	}
	refusedAll(t, "value", []told{
		{"~1.0", api.ErrForm, 2}, {"~ 1", api.ErrForm, 1}, {"~+1", api.ErrForm, 1}, {"~.5", api.ErrForm, 1}, {"~~1", api.ErrForm, 1}, {"~NaN", api.ErrForm, 1}, {"~Inf", api.ErrForm, 1}, {"~naN", api.ErrForm, 1}, {"~1E5", api.ErrForm, 2}, {"~1+1", api.ErrForm, 2}, {"~1_0", api.ErrForm, 2}, {"~0~", api.ErrForm, 2}, {"~nan(", api.ErrForm, 4}, {"~x3FE0000000000000", api.ErrForm, 1}, {"~x3fe0000000000000.", api.ErrForm, 18}, {"~1\xff", api.ErrForm, 2}, {"~inf ", api.ErrForm, 4}, {"~-inf]", api.ErrForm, 5},
	})
	for n := range uint64(3000) {
		bits := mixed(n)
		asWords(t, "value", fmt.Sprintf("~x%016x", bits))
		asWords(t, "value", fmt.Sprintf("~x%016x", bits&^(1<<(n%53)-1)))
		asWords(t, "value", fmt.Sprintf("~%d", int64(bits)>>(n%64)))
	}
}

// TestParseQuoted: P21.2, P21.3: each byte within quotes, as itself, behind a backslash, by its digits.
func TestParseQuoted(t *testing.T) {
	for _, q := range []string{`"`, `'`} {
		for b := range 256 {
			c := string([]byte{byte(b)})
			plain := b >= 0x20 && b <= 0x7e
			switch {
			case c == q:
				refused(t, "value", q+c+q, api.ErrForm, 2)
				refused(t, "value", q+"ab"+c+q, api.ErrForm, 4)
			case !plain:
				refused(t, "value", q+c+q, api.ErrForm, 1)
				refused(t, "value", q+"ab"+c+q, api.ErrForm, 3)
				refused(t, "value", q+"ab"+c, api.ErrForm, 3)
			case c != `\`:
				sameParse(t, q+c+q, quotedBy(q, c))
				sameParse(t, q+"ab"+c+c+q, quotedBy(q, "ab"+c+c))
				refused(t, "value", q+"ab"+c, api.ErrForm, 4)
			}
			if c == q || c == `\` {
				sameParse(t, q+`\`+c+q, quotedBy(q, c))
				sameParse(t, q+`a\`+c+`\`+c+`b`+q, quotedBy(q, "a"+c+c+"b"))
			} else {
				refused(t, "value", q+`\`+c+q, api.ErrForm, 1)
				refused(t, "value", q+`ab\`+c+`zz`+q, api.ErrForm, 3)
			}
			said := fmt.Sprintf(`\x%02x`, b)
			switch {
			case plain:
				refused(t, "value", q+said+q, api.ErrForm, 1)
				refused(t, "value", q+"ab"+said+q, api.ErrForm, 3)
			case b < 0x80 || q == `'`:
				sameParse(t, q+said+q, quotedBy(q, c))
				sameParse(t, q+"ab"+said+said+"0"+q, quotedBy(q, "ab"+c+c+"0"))
			default:
				refused(t, "value", q+said+q, api.ErrUtf, 0)
				refused(t, "value", q+"ab"+said+q, api.ErrUtf, 0)
			}
		}
	}
}

// quotedBy is the value that q stands about.
func quotedBy(q, s string) api.Value {
	if q == `"` {
		return words(s)
	}
	return rawBytes(s)
}

// TestParseQuotedRefused: P21.2: backslashes at the end, with too few digits, with digits that are none; texts that end.
func TestParseQuotedRefused(t *testing.T) {
	for _, q := range []string{`"`, `'`} {
		other := map[string]string{`"`: `'`, `'`: `"`}[q]
		for _, one := range []told{
			{"", api.ErrForm, 1}, {"a", api.ErrForm, 2}, {"abc", api.ErrForm, 4}, {`\`, api.ErrForm, 1}, {`\x`, api.ErrForm, 1}, {`\x0`, api.ErrForm, 1}, {`\x00`, api.ErrForm, 5}, {`\\`, api.ErrForm, 3}, {`\` + q, api.ErrForm, 3}, {`ab\`, api.ErrForm, 3}, {`\\\`, api.ErrForm, 3}, {`\\` + q + q, api.ErrForm, 4},
			{`\x` + q, api.ErrForm, 1}, {`\x0` + q, api.ErrForm, 1}, {`\x0g` + q, api.ErrForm, 1}, {`\xg0` + q, api.ErrForm, 1}, {`\x0G` + q, api.ErrForm, 1}, {`\x0A` + q, api.ErrForm, 1}, {`\xA0` + q, api.ErrForm, 1}, {`\xFF` + q, api.ErrForm, 1}, {`\xfF` + q, api.ErrForm, 1}, {`\X00` + q, api.ErrForm, 1}, {`\x 0` + q, api.ErrForm, 1}, {`\x-1` + q, api.ErrForm, 1}, {`\x+1` + q, api.ErrForm, 1}, {`\x0/` + q, api.ErrForm, 1}, {`\x0:` + q, api.ErrForm, 1}, {"\\x0`" + q, api.ErrForm, 1}, {"\\x0\xff" + q, api.ErrForm, 1}, {`\x_0` + q, api.ErrForm, 1},
			{`\x20` + q, api.ErrForm, 1}, {`\x7e` + q, api.ErrForm, 1}, {`\x5c` + q, api.ErrForm, 1}, {`\x22` + q, api.ErrForm, 1}, {`\x27` + q, api.ErrForm, 1}, {`\x30` + q, api.ErrForm, 1}, {`\` + other + q, api.ErrForm, 1}, {`\n` + q, api.ErrForm, 1}, {`\0` + q, api.ErrForm, 1}, {`\u00e9` + q, api.ErrForm, 1}, {"\n" + q, api.ErrForm, 1}, {"\t" + q, api.ErrForm, 1}, {"\x7f" + q, api.ErrForm, 1}, {"a\u00e9" + q, api.ErrForm, 2}, {"\ufffd" + q, api.ErrForm, 1},
			{"a" + q + "b", api.ErrForm, 3}, {q + " ", api.ErrForm, 2}, {q + q, api.ErrForm, 2}, {"a" + other, api.ErrForm, 3}, {`\x00\x0` + q, api.ErrForm, 5}, {`\x00\x41` + q, api.ErrForm, 5}, {`\x4` + q, api.ErrForm, 1},
		} {
			refused(t, "value", q+one.s, one.e, one.at)
			refused(t, "value", "some("+q+one.s, one.e, one.at+5)
			refused(t, "value", "["+q+one.s, one.e, one.at+1)
			refused(t, "row", q+"zz"+q+", "+q+one.s, one.e, one.at+6)
			refused(t, "schema", "a text = "+q+one.s, one.e, one.at+9)
		}
		sameParse(t, q+q, quotedBy(q, ""))
		sameParse(t, q+other+q, quotedBy(q, other))
		sameParse(t, q+`\\x41`+q, quotedBy(q, `\x41`))
		sameParse(t, q+`\\\\`+q, quotedBy(q, `\\`))
		sameParse(t, q+`\x1f ~\x7f`+q, quotedBy(q, "\x1f ~\x7f"))
		sameParse(t, q+`\x000`+q, quotedBy(q, "\x000"))
		sameParse(t, q+`\xc3\xa9`+q, quotedBy(q, "\u00e9"))
	}
	sameParse(t, `'\x7f\x80\x1f'`, rawBytes("\x7f\x80\x1f"))
}

// TestParseList: P21.2, P21.3: Lists of no item, of one, of several; what is missing between them, what is too much.
func TestParseList(t *testing.T) {
	sameParse(t, "[]", list())
	sameParse(t, "[1]", list(number(1)))
	sameParse(t, "[1, 2, 3]", list(number(1), number(2), number(3)))
	sameParse(t, "[[], [1], [2, 3]]", list(list(), list(number(1)), list(number(2), number(3))))
	sameParse(t, "[[[[]]]]", list(list(list(list()))))
	sameParse(t, "[[[[], []], []], []]", list(list(list(list(), list()), list()), list()))
	sameParse(t, `[true, 1, ~1, "]", ']', none, some([]), []]`, list(boolean(1), number(1), float(1), words("]"), rawBytes("]"), opt(), opt(list()), list()))
	refusedAll(t, "value", []told{
		{"[", api.ErrForm, 1}, {"[ ]", api.ErrForm, 1}, {"[1", api.ErrForm, 2}, {"[1,", api.ErrForm, 3}, {"[1, ", api.ErrForm, 4}, {"[1, ]", api.ErrForm, 4}, {"[1,]", api.ErrForm, 3}, {"[,", api.ErrForm, 1}, {"[, 1]", api.ErrForm, 1}, {"[1,2]", api.ErrForm, 3}, {"[1,  2]", api.ErrForm, 4}, {"[1 , 2]", api.ErrForm, 2}, {"[1 ]", api.ErrForm, 2}, {"[ 1]", api.ErrForm, 1}, {"[1, 2 ]", api.ErrForm, 5}, {"[1 2]", api.ErrForm, 2}, {"[1; 2]", api.ErrForm, 2}, {"[1)", api.ErrForm, 2}, {"[1}", api.ErrForm, 2},
		{"[]]", api.ErrForm, 2}, {"[] ", api.ErrForm, 2}, {"[1]]", api.ErrForm, 3}, {"[][]", api.ErrForm, 2}, {"[[]", api.ErrForm, 3}, {"[[], ", api.ErrForm, 5}, {"[[],[]]", api.ErrForm, 4}, {"[[] []]", api.ErrForm, 3}, {"[1, 2, x]", api.ErrForm, 7}, {"[1, 2, 03]", api.ErrForm, 7}, {"[01, 02]", api.ErrForm, 1}, {"[1,\t2]", api.ErrForm, 3}, {"[1,\xff", api.ErrForm, 3}, {"[\xff]", api.ErrForm, 1}, {"[1\xff]", api.ErrForm, 2}, {"[int]", api.ErrForm, 1}, {"[1, 2", api.ErrForm, 5}, {"[none, some(1]", api.ErrForm, 13},
	})
}

// TestParseValueDeep: P21.2: values at MaxDepth are taken, the one that is deeper is refused where it stands, whatever stands there, but for the end of a list that has no item.
func TestParseValueDeep(t *testing.T) {
	opening, closing := []string{"some(", "["}, []string{")", "]"}
	for k := range 16 {
		outer, ends := "", ""
		for n := range 4 {
			outer += opening[k>>n&1]
			ends = closing[k>>n&1] + ends
		}
		last := k >> 3
		three := outer[:len(outer)-len(opening[last])]
		inner := number(-7)
		for n := range 3 {
			inner = api.Value{Kind: 6 + k>>(2-n)&1, Items: []api.Value{inner}}
		}
		sameParse(t, three+"-7"+ends[1:], inner)
		refused(t, "value", outer+"-7"+ends, api.ErrDeep, len(outer))
		refused(t, "row", "none, "+outer+"-7"+ends, api.ErrDeep, 6+len(outer))
		refused(t, "schema", "a int = "+outer+"-7"+ends, api.ErrDeep, 8+len(outer))
		for _, behind := range []string{"", "1", "01", " ", ")", ",", "\xff", "x", "none", "some(", "[", "[]", `"`, "~"} {
			refused(t, "value", outer+behind, api.ErrDeep, len(outer))
		}
		if last == 1 {
			asWords(t, "value", outer+ends)
			if _, e, _ := doParse("value", outer+ends); e != api.OK {
				t.Fatalf("%s: %d", outer+ends, e)
			}
		} else {
			refused(t, "value", outer+ends, api.ErrDeep, len(outer))
			refused(t, "value", outer[:len(outer)-1], api.ErrForm, len(outer)-1)
		}
	}
	refused(t, "value", "[[[[]]], [[[[1]]]]]", api.ErrDeep, 12)
	refused(t, "value", "[[[[1", api.ErrDeep, 4)
	refused(t, "value", "[[[[], 01]]]", api.ErrForm, 7)
	refused(t, "value", strings.Repeat("[", 100000), api.ErrDeep, 4)
	refused(t, "value", strings.Repeat("some(", 100000), api.ErrDeep, 20)
}

// TestParseRow: P21.2, P21.3: rows of no value, of one, of several; what is missing between them, what is too much.
func TestParseRow(t *testing.T) {
	sameParse(t, "", values())
	sameParse(t, "1", values(number(1)))
	sameParse(t, "[]", values(list()))
	sameParse(t, "1, 2", values(number(1), number(2)))
	sameParse(t, `true, -2, ~x3fe0000000000000, "a, b", '\'', none, some(3), [4, 5]`, values(boolean(1), number(-2), float(0.5), words("a, b"), rawBytes("'"), opt(), opt(number(3)), list(number(4), number(5))))
	sameParse(t, joined(3000, "none"), values(times(3000, opt())...))
	refusedAll(t, "row", []told{
		{" ", api.ErrForm, 0}, {",", api.ErrForm, 0}, {", ", api.ErrForm, 0}, {"1 ", api.ErrForm, 1}, {"1,", api.ErrForm, 2}, {"1, ", api.ErrForm, 3}, {"1,2", api.ErrForm, 2}, {"1,  2", api.ErrForm, 3}, {"1 , 2", api.ErrForm, 1}, {"1 2", api.ErrForm, 1}, {"1, 2 ", api.ErrForm, 4}, {"1, 2,", api.ErrForm, 5}, {"1, 2, ", api.ErrForm, 6}, {", 1", api.ErrForm, 0}, {" 1", api.ErrForm, 0}, {"1, , 2", api.ErrForm, 3}, {"1]", api.ErrForm, 1}, {"1)", api.ErrForm, 1}, {"1;", api.ErrForm, 1}, {"[1, 2", api.ErrForm, 5}, {"1, 02, 03", api.ErrForm, 3}, {"a int", api.ErrForm, 0}, {"\x00", api.ErrForm, 0}, {"1\x00", api.ErrForm, 1}, {"1,\x00", api.ErrForm, 2}, {"\xff", api.ErrForm, 0}, {"1, \xff", api.ErrForm, 3}, {"1\n", api.ErrForm, 1},
	})
}

// TestParseSchema: P21.2, P21.3: schemas of one column, of several, with and without a default.
func TestParseSchema(t *testing.T) {
	sameParse(t, "a int", of(plain("a", ofInt)))
	sameParse(t, "a_0 list(opt(text))", of(plain("a_0", listOf(optOf(ofText)))))
	sameParse(t, "int int, opt opt(bool), none bool = true", of(plain("int", ofInt), plain("opt", optOf(ofBool)), with("none", ofBool, boolean(1))))
	sameParse(t, "abcdefghijklmnop int", of(plain("abcdefghijklmnop", ofInt)))
	sameParse(t, `a int = 5, b text, c text = ", d int = 6"`, of(with("a", ofInt, number(5)), plain("b", ofText), with("c", ofText, words(", d int = 6"))))
	sameParse(t, "a list(list(list(int))) = [[[1, 2]], []], b opt(opt(opt(float))) = some(some(some(~nan)))", of(with("a", listOf(listOf(listOf(ofInt))), list(list(list(number(1), number(2))), list())), with("b", optOf(optOf(optOf(ofFloat))), opt(opt(opt(nan(theNaN)))))))
	sameParse(t, wideText(16), wide(16))
	for _, one := range allTypes() {
		sameParse(t, "x "+wordType(one)+", y "+wordType(one), of(plain("x", one), plain("y", one)))
	}
}

// TestParseSchemaRefused: P21.2: columns without a name, without a type, with one blank of ` = ` missing.
func TestParseSchemaRefused(t *testing.T) {
	refusedAll(t, "schema", []told{
		{"", api.ErrForm, 0}, {" ", api.ErrForm, 0}, {" int", api.ErrForm, 0}, {" a int", api.ErrForm, 0}, {"A int", api.ErrForm, 0}, {"-a int", api.ErrForm, 0}, {",", api.ErrForm, 0}, {"=", api.ErrForm, 0}, {"\u00e9 int", api.ErrForm, 0}, {"\xff", api.ErrForm, 0}, {"\x00", api.ErrForm, 0},
		{"a", api.ErrForm, 1}, {"a ", api.ErrForm, 2}, {"a  int", api.ErrForm, 2}, {"a\tint", api.ErrForm, 1}, {"a,", api.ErrForm, 1}, {"aA int", api.ErrForm, 1}, {"a-b int", api.ErrForm, 1}, {"a\u00e9 int", api.ErrForm, 1}, {"a\xff", api.ErrForm, 1}, {"a=5", api.ErrForm, 1}, {"a:int", api.ErrForm, 1}, {"a(int)", api.ErrForm, 1},
		{"a in", api.ErrForm, 2}, {"a ints", api.ErrForm, 2}, {"a Int", api.ErrForm, 2}, {"a =", api.ErrForm, 2}, {"a = 5", api.ErrForm, 2}, {"a 5", api.ErrForm, 2}, {"a int5", api.ErrForm, 5}, {"a int)", api.ErrForm, 5}, {"a int(", api.ErrForm, 5}, {"a int\x00", api.ErrForm, 5}, {"a int\xff", api.ErrForm, 5}, {"a int=5", api.ErrForm, 5}, {"a int;", api.ErrForm, 5}, {"a opt", api.ErrForm, 5}, {"a opt(", api.ErrForm, 6}, {"a opt(int", api.ErrForm, 9}, {"a opt(int]", api.ErrForm, 9},
		{"a int ", api.ErrForm, 6}, {"a int  ", api.ErrForm, 6}, {"a int ,", api.ErrForm, 6}, {"a int , b int", api.ErrForm, 6}, {"a int 5", api.ErrForm, 6}, {"a int =", api.ErrForm, 7}, {"a int =5", api.ErrForm, 7}, {"a int = ", api.ErrForm, 8}, {"a int =  5", api.ErrForm, 8}, {"a int  = 5", api.ErrForm, 6}, {"a int= 5", api.ErrForm, 5}, {"a int == 5", api.ErrForm, 7}, {"a int = 05", api.ErrForm, 8}, {"a int = x", api.ErrForm, 8}, {"a int = int", api.ErrForm, 8}, {"a int = ,", api.ErrForm, 8}, {"a int = 5 ", api.ErrForm, 9}, {"a int = 5 = 5", api.ErrForm, 9}, {"a int = 5x", api.ErrForm, 9}, {"a int = [5", api.ErrForm, 10},
		{"a int,", api.ErrForm, 6}, {"a int, ", api.ErrForm, 7}, {"a int,b int", api.ErrForm, 6}, {"a int,  b int", api.ErrForm, 7}, {"a int b int", api.ErrForm, 6}, {"a int, b", api.ErrForm, 8}, {"a int, b ", api.ErrForm, 9}, {"a int, int", api.ErrForm, 10}, {"a int, = 5", api.ErrForm, 7}, {"a int, B int", api.ErrForm, 7}, {"a int, , b int", api.ErrForm, 7}, {"a int, b int,", api.ErrForm, 13}, {"a int = 5,", api.ErrForm, 10}, {"a int = 5, ", api.ErrForm, 11}, {"a int = 5,b int", api.ErrForm, 10}, {"a int = 5, b Int", api.ErrForm, 13}, {"a int = 5, b int = 05", api.ErrForm, 19}, {"a int = 5, b int =6", api.ErrForm, 18},
	})
}

// TestParseChecks: P21.2: with the place 0 the errors of schema.Check, value.Check, of a row that of the first value which is refused.
func TestParseChecks(t *testing.T) {
	long, many := strings.Repeat("a", 1025), joined(257, "1")
	refusedAll(t, "value", []told{
		{`"\xff"`, api.ErrUtf, 0}, {`"a\xc3"`, api.ErrUtf, 0}, {`"\xed\xa0\x80"`, api.ErrUtf, 0}, {`some("\xff")`, api.ErrUtf, 0}, {`[1, "\xff"]`, api.ErrUtf, 0}, {`"` + long + `"`, api.ErrLong, 0}, {`'` + long + `'`, api.ErrLong, 0}, {`'` + strings.Repeat(`\xff`, 1025) + `'`, api.ErrLong, 0}, {`"` + strings.Repeat(`\xff`, 1025) + `"`, api.ErrLong, 0},
		{"[" + many + "]", api.ErrMany, 0}, {"some([" + many + "])", api.ErrMany, 0}, {`["\xff", [` + many + `]]`, api.ErrUtf, 0}, {`[[` + many + `], "\xff"]`, api.ErrMany, 0}, {`["` + long + `", "\xff"]`, api.ErrLong, 0}, {`[` + joined(257, `"\xff"`) + `]`, api.ErrMany, 0},
	})
	refusedAll(t, "row", []told{
		{`"\xff"`, api.ErrUtf, 0}, {`1, "\xff", 2`, api.ErrUtf, 0}, {`1, "\xff", "` + long + `"`, api.ErrUtf, 0}, {`1, "` + long + `", "\xff"`, api.ErrLong, 0}, {`1, [` + many + `], "\xff"`, api.ErrMany, 0}, {`1, "\xff", [` + many + `]`, api.ErrUtf, 0}, {many + `, "\xff"`, api.ErrUtf, 0},
	})
	refusedAll(t, "schema", []told{
		{wideText(17), api.ErrMany, 0}, {wideText(17) + `, c0 int = "\xff"`, api.ErrMany, 0}, {"_ int", api.ErrName, 0}, {"9 int", api.ErrName, 0}, {"0a int", api.ErrName, 0}, {"_a int", api.ErrName, 0}, {"abcdefghijklmnopq int", api.ErrName, 0}, {strings.Repeat("a", 5000) + " int", api.ErrName, 0}, {"a int, 5 int", api.ErrName, 0},
		{"a int, a int", api.ErrTwice, 0}, {"a int, b text, a bool", api.ErrTwice, 0}, {`a int = "x"`, api.ErrType, 0}, {"a int = ~1", api.ErrType, 0}, {"a float = 1", api.ErrType, 0}, {"a text = ''", api.ErrType, 0}, {`a bytes = ""`, api.ErrType, 0}, {"a opt(int) = 1", api.ErrType, 0}, {"a opt(int) = some(~1)", api.ErrType, 0}, {"a list(int) = [1, none]", api.ErrType, 0}, {"a int = true", api.ErrType, 0}, {"a bool = 1", api.ErrType, 0}, {"a int = [[[[]]]]", api.ErrType, 0},
		{`a text = "\xff"`, api.ErrUtf, 0}, {`a int = "\xff"`, api.ErrUtf, 0}, {"a list(int) = [" + many + "]", api.ErrMany, 0}, {`a text = "` + long + `"`, api.ErrLong, 0}, {`a text = "` + long[:600] + `", b text = "` + long[:600] + `"`, api.ErrLong, 0}, {"a int, a int, 9 int", api.ErrTwice, 0}, {"a int, 9 int, a int", api.ErrName, 0}, {`a int = "x", a int`, api.ErrType, 0},
	})
}

// TestParseFirst: P21.2: of two errors the one on the left is told; those with the place 0 behind all others.
func TestParseFirst(t *testing.T) {
	refusedAll(t, "value", []told{
		{`"\xff`, api.ErrForm, 5}, {`"\xff" `, api.ErrForm, 6}, {`["\xff", 01]`, api.ErrForm, 9}, {"[" + joined(257, "1"), api.ErrForm, 770}, {"[" + joined(257, "1") + "] ", api.ErrForm, 771}, {"[01, [[[[1]]]]]", api.ErrForm, 1}, {"[[[[[1]]]], 01]", api.ErrDeep, 4}, {"[1, [[[[1]]]], 01]", api.ErrDeep, 7}, {`"\x41\x42`, api.ErrForm, 1}, {"\"\x00\\", api.ErrForm, 1}, {"[x, y]", api.ErrForm, 1}, {"some(~x, 01", api.ErrForm, 6},
	})
	refusedAll(t, "row", []told{{`"\xff", 01`, api.ErrForm, 8}, {`"\xff", `, api.ErrForm, 8}, {"01, [[[[1]]]]", api.ErrForm, 0}, {"[[[[1]]]], 01", api.ErrDeep, 4}, {`'` + strings.Repeat("a", 1025) + `'x`, api.ErrForm, 1027}})
	refusedAll(t, "schema", []told{{"a int, a int,", api.ErrForm, 13}, {"a int, a int x", api.ErrForm, 13}, {"9 Int", api.ErrForm, 2}, {"a int = \"x\" ", api.ErrForm, 11}, {"9 opt(opt(opt(opt(int))))", api.ErrDeep, 18}, {"a Int, B int", api.ErrForm, 2}, {wideText(17) + ", ", api.ErrForm, len(wideText(17)) + 2}, {"a opt(opt(opt(opt(int", api.ErrDeep, 18}, {"a opt(opt(opt(int = 01", api.ErrForm, 17}})
}

// TestParseLimits: P21.2, P21.3: what is at a limit is taken.
func TestParseLimits(t *testing.T) {
	long := strings.Repeat("a", api.MaxText)
	sameParse(t, `"`+long+`"`, words(long))
	sameParse(t, `'`+strings.Repeat(`\xff`, api.MaxText)+`'`, rawBytes(strings.Repeat("\xff", api.MaxText)))
	sameParse(t, `"`+strings.Repeat(`\xc3\xa9`, api.MaxText/2)+`"`, words(strings.Repeat("\u00e9", api.MaxText/2)))
	sameParse(t, "["+joined(api.MaxItems, "1")+"]", list(times(api.MaxItems, number(1))...))
	sameParse(t, "["+joined(100, "["+joined(100, "[]")+"]")+"]", list(times(100, list(times(100, list())...))...))
	fits := strings.Repeat("x", api.MaxSchema-7)
	sameParse(t, `a text = "`+fits+`"`, of(with("a", ofText, words(fits))))
	refused(t, "schema", `a text = "x`+fits+`"`, api.ErrLong, 0)
}

// TestParseLong: R1: texts of many bytes end, at the right place.
func TestParseLong(t *testing.T) {
	const n = 1 << 20
	for _, one := range []struct {
		what, s string
		e       api.Errno
		at      int
	}{
		{"value", strings.Repeat("a", n), api.ErrForm, 0}, {"value", strings.Repeat("1", n), api.ErrForm, 0}, {"value", "~" + strings.Repeat("1", n), api.ErrForm, 1}, {"value", "~x" + strings.Repeat("1", n), api.ErrForm, 1}, {"value", `"` + strings.Repeat("a", n), api.ErrForm, n + 1}, {"value", `"` + strings.Repeat(`\x00`, n), api.ErrForm, 4*n + 1}, {"value", `'` + strings.Repeat(`\\`, n) + `\`, api.ErrForm, 2*n + 1},
		{"value", "[" + strings.Repeat("[], ", n), api.ErrForm, 4*n + 1}, {"value", "[" + strings.Repeat("none, ", n) + "none]", api.ErrMany, 0}, {"row", strings.Repeat("1, ", n), api.ErrForm, 3 * n}, {"row", strings.Repeat("1, ", n) + `"\xff"`, api.ErrUtf, 0}, {"schema", strings.Repeat("a int, ", n), api.ErrForm, 7 * n}, {"schema", strings.Repeat("a int, ", n) + "a int", api.ErrMany, 0}, {"schema", strings.Repeat("a", n), api.ErrForm, n}, {"type", strings.Repeat("a", n), api.ErrForm, 0},
	} {
		told, e, at := doParse(one.what, one.s)
		if e != one.e || at != one.at || exact(told) != exact(nothingOf(one.what)) {
			t.Errorf("Parse of the %s %.20q.. of %d bytes: %d, %d, want %d, %d", one.what, one.s, len(one.s), e, at, one.e, one.at)
		}
	}
	if told, e, at := doParse("row", strings.Repeat("1, ", n)+"1"); e != api.OK || at != 0 || len(told.(api.Row).Values) != n+1 {
		t.Errorf("a row of %d values: %d, %d", n+1, e, at)
	}
}
