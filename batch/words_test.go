package batch_test

import (
	"encoding/binary"
	"math"
	"slices"
	"strconv"
	"strings"

	"gabion/api"
	"gabion/block"
	"gabion/row"
	"gabion/schema"
)

const theNaN = 0x7ff8000000000000

var minusZero = math.Copysign(0, -1)

// nanBits are bits of NaNs: the one, and others, quiet and signalling ones, of either sign.
var nanBits = []uint64{
	theNaN, 0x7ff0000000000001, 0x7ff4000000000000, 0x7ff7ffffffffffff, 0x7ff8000000000001, 0x7fffffffffffffff,
	0xfff0000000000001, 0xfff7ffffffffffff, 0xfff8000000000000, 0xfff8000000000001, 0xffffffffffffffff,
}

func kind(k int, of ...api.Type) api.Type { return api.Type{Kind: k, Of: of} }

var (
	ofBool  = kind(api.Bool)
	ofInt   = kind(api.Int)
	ofFloat = kind(api.Float)
	ofText  = kind(api.Text)
	ofBytes = kind(api.Bytes)
)

func optOf(t api.Type) api.Type { return kind(api.Opt, t) }

func listOf(t api.Type) api.Type { return kind(api.List, t) }

func boolean(n int64) api.Value { return api.Value{Kind: api.Bool, Int: n} }

func number(n int64) api.Value { return api.Value{Kind: api.Int, Int: n} }

func float(x float64) api.Value { return api.Value{Kind: api.Float, Float: x} }

func nan(bits uint64) api.Value { return float(math.Float64frombits(bits)) }

func text(s string) api.Value { return api.Value{Kind: api.Text, Text: s} }

func rawBytes(s string) api.Value { return api.Value{Kind: api.Bytes, Text: s} }

func opt(items ...api.Value) api.Value { return api.Value{Kind: api.Opt, Items: items} }

func list(items ...api.Value) api.Value { return api.Value{Kind: api.List, Items: items} }

func times(n int, v api.Value) []api.Value { return slices.Repeat([]api.Value{v}, n) }

func plain(name string, t api.Type) api.Column { return api.Column{Name: name, Type: t} }

func with(name string, t api.Type, v api.Value) api.Column {
	return api.Column{Name: name, Type: t, Has: true, Default: v}
}

func of(columns ...api.Column) api.Schema { return api.Schema{Columns: columns} }

// alone is a schema of one column of that type.
func alone(t api.Type) api.Schema { return of(plain("a", t)) }

var (
	ints  = alone(ofInt)
	texts = alone(ofText)
)

func values(l ...api.Value) api.Row { return api.Row{Values: l} }

// rows is rows of one value each.
func rows(l ...api.Value) []api.Row {
	var all []api.Row
	for _, v := range l {
		all = append(all, values(v))
	}
	return all
}

// long is a row of one text, of n bytes in all: 1 for how many there are, from 130 on 2.
func long(n int) api.Value {
	ahead := 1
	if n > 128 {
		ahead = 2
	}
	return text(strings.Repeat("x", n-ahead))
}

// raw is bytes packed as they are.
func raw(b string) []byte { return []byte("\x00" + b) }

// literals is bytes packed as one token.
func literals(b string) []byte {
	return append(binary.AppendUvarint([]byte{1}, 2*uint64(len(b))), b...)
}

// mixed is the n-th of a row of well mixed words, the same ones in every run.
func mixed(n uint64) uint64 {
	z := (n + 1) * 0x9e3779b97f4a7c15
	z = (z ^ z>>30) * 0xbf58476d1ce4e5b9
	z = (z ^ z>>27) * 0x94d049bb133111eb
	return z ^ z>>31
}

func mixedBytes(seed uint64, n int) []byte {
	b := make([]byte, n)
	for i := range b {
		b[i] = byte(mixed(seed<<20 + uint64(i)))
	}
	return b
}

func fixedBits(x float64) uint64 {
	if x != x {
		return theNaN
	}
	return math.Float64bits(x)
}

// showValue lays all that a value holds behind b, the floats by the bits that bits tells of them; unlike values have unlike texts.
func showValue(b []byte, v api.Value, bits func(x float64) uint64) []byte {
	b = strconv.AppendInt(append(b, '{'), int64(v.Kind), 10)
	b = strconv.AppendInt(append(b, ' '), v.Int, 10)
	b = strconv.AppendUint(append(b, ' '), bits(v.Float), 16)
	b = strconv.AppendQuoteToASCII(append(b, ' '), v.Text)
	for _, item := range v.Items {
		b = showValue(b, item, bits)
	}
	return append(b, '}')
}

func show(l []api.Row, bits func(x float64) uint64) string {
	var b []byte
	for _, r := range l {
		b = append(b, '(')
		for _, v := range r.Values {
			b = showValue(b, v, bits)
		}
		b = append(b, ')')
	}
	return string(b)
}

// exact is what rows hold, to the bit; fixed is that with the one NaN.
func exact(l []api.Row) string { return show(l, math.Float64bits) }

func fixed(l []api.Row) string { return show(l, fixedBits) }

func kinds(t api.Type) string {
	l := strconv.Itoa(t.Kind)
	for _, inner := range t.Of {
		l += "<" + kinds(inner) + ">"
	}
	return l
}

// columns is all that a schema holds.
func columns(s api.Schema) string {
	var b strings.Builder
	for _, c := range s.Columns {
		b.WriteString(strconv.Quote(c.Name) + " " + kinds(c.Type) + " " + strconv.FormatBool(c.Has) + " " + exact(rows(c.Default)) + ", ")
	}
	return b.String()
}

// wordBytes is rows' bytes by the document's table, one behind the other.
func wordBytes(l []api.Row) []byte {
	var b []byte
	for _, r := range l {
		for _, v := range r.Values {
			b = wordValue(b, v)
		}
	}
	return b
}

func wordValue(b []byte, v api.Value) []byte {
	switch v.Kind {
	case api.Bool:
		b = append(b, byte(v.Int))
	case api.Int:
		b = binary.AppendVarint(b, v.Int)
	case api.Float:
		b = binary.LittleEndian.AppendUint64(b, fixedBits(v.Float))
	case api.Text, api.Bytes:
		b = append(binary.AppendUvarint(b, uint64(len(v.Text))), v.Text...)
	case api.Opt, api.List:
		b = binary.AppendUvarint(b, uint64(len(v.Items)))
	}
	for _, item := range v.Items {
		b = wordValue(b, item)
	}
	return b
}

// wordCount is the beginning of all three promises: a schema, and how many rows.
func wordCount(s api.Schema, rows int) api.Errno {
	switch e := schema.Check(s); {
	case e != api.OK:
		return e
	case rows <= 0:
		return api.ErrEmpty
	case rows >= 65:
		return api.ErrMany
	}
	return api.OK
}

// wordSize is P11.1 by the words.
func wordSize(s api.Schema, l []api.Row) (int, api.Errno) {
	if e := wordCount(s, len(l)); e != api.OK {
		return 0, e
	}
	for _, r := range l {
		if e := row.Check(s, r); e != api.OK {
			return 0, e
		}
	}
	if n := len(wordBytes(l)); n <= 2048 {
		return n, api.OK
	}
	return 0, api.ErrLong
}

// wordUnpack is P11.3 by the words.
func wordUnpack(s api.Schema, b []byte, rows int) ([]api.Row, api.Errno) {
	if e := wordCount(s, rows); e != api.OK {
		return nil, e
	}
	all, e := block.Unpack(b)
	if e != api.OK {
		return nil, e
	}
	return wordRows(s, all, rows)
}

// wordRows is the first row, and the others of what is left.
func wordRows(s api.Schema, b []byte, rows int) ([]api.Row, api.Errno) {
	if rows == 0 && len(b) > 0 {
		return nil, api.ErrForm
	}
	if rows == 0 {
		return nil, api.OK
	}
	r, behind, e := row.Decode(s, b, 0)
	if e != api.OK {
		return nil, e
	}
	others, e := wordRows(s, b[behind:], rows-1)
	if e != api.OK {
		return nil, e
	}
	return append([]api.Row{r}, others...), api.OK
}
