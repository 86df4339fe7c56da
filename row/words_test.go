package row_test

import (
	"encoding/binary"
	"math"
	"slices"
	"strconv"
	"strings"
	"unicode/utf8"

	"gabion/api"
	"gabion/leb"
	"gabion/schema"
	"gabion/value"
)

const theNaN = 0x7ff8000000000000

var minusZero = math.Copysign(0, -1)

// nanBits are bits of NaNs: the one, and others, quiet and signalling ones, of either sign.
var nanBits = []uint64{
	theNaN, 0x7ff0000000000001, 0x7ff4000000000000, 0x7ff7ffffffffffff, 0x7ff8000000000001, 0x7fffffffffffffff,
	0xfff0000000000001, 0xfff7ffffffffffff, 0xfff8000000000000, 0xfff8000000000001, 0xffffffffffffffff,
}

// otherFloats are floats at the edges, unlike each other, no NaN.
var otherFloats = []float64{
	0, minusZero, 1, -1, 0.5, -0.5, math.Inf(1), math.Inf(-1), math.MaxFloat64, -math.MaxFloat64,
	math.SmallestNonzeroFloat64, -math.SmallestNonzeroFloat64, 1 << 53, -1 << 63,
}

func kind(k int, of ...api.Type) api.Type { return api.Type{Kind: k, Of: of} }

var (
	ofBool  = kind(api.Bool)
	ofInt   = kind(api.Int)
	ofFloat = kind(api.Float)
	ofText  = kind(api.Text)
	ofBytes = kind(api.Bytes)
)

func optOf(t api.Type) api.Type { return kind(api.Opt, t) }

func listOf(t api.Type) api.Type { return kind(api.List, t) }

// within is t under that many lists, or Opts.
func within(n, k int, t api.Type) api.Type {
	for range n {
		t = kind(k, t)
	}
	return t
}

func boolean(n int64) api.Value { return api.Value{Kind: api.Bool, Int: n} }

func number(n int64) api.Value { return api.Value{Kind: api.Int, Int: n} }

func float(x float64) api.Value { return api.Value{Kind: api.Float, Float: x} }

func nan(bits uint64) api.Value { return float(math.Float64frombits(bits)) }

func text(s string) api.Value { return api.Value{Kind: api.Text, Text: s} }

func rawBytes(s string) api.Value { return api.Value{Kind: api.Bytes, Text: s} }

func opt(items ...api.Value) api.Value { return api.Value{Kind: api.Opt, Items: items} }

func list(items ...api.Value) api.Value { return api.Value{Kind: api.List, Items: items} }

// times is v, n times.
func times(n int, v api.Value) []api.Value { return slices.Repeat([]api.Value{v}, n) }

func plain(name string, t api.Type) api.Column { return api.Column{Name: name, Type: t} }

func with(name string, t api.Type, v api.Value) api.Column {
	return api.Column{Name: name, Type: t, Has: true, Default: v}
}

func of(columns ...api.Column) api.Schema { return api.Schema{Columns: columns} }

func values(l ...api.Value) api.Row { return api.Row{Values: l} }

// alone is a schema of one column of that type.
func alone(t api.Type) api.Schema { return of(plain("a", t)) }

// wide is a schema of n columns of unlike names.
func wide(n int) api.Schema {
	s := api.Schema{}
	for i := range n {
		s.Columns = append(s.Columns, plain("c"+strconv.Itoa(i), ofInt))
	}
	return s
}

// mixed is the n-th of a row of well mixed words, the same ones in every run.
func mixed(n uint64) uint64 {
	z := (n + 1) * 0x9e3779b97f4a7c15
	z = (z ^ z>>30) * 0xbf58476d1ce4e5b9
	z = (z ^ z>>27) * 0x94d049bb133111eb
	return z ^ z>>31
}

func mixedBytes(seed uint64, n int) []byte {
	b := make([]byte, n)
	for i := range b {
		b[i] = byte(mixed(seed<<20 + uint64(i)))
	}
	return b
}

// showValue lays all that a value holds behind b, the floats by the bits that bits tells of them; unlike values have unlike texts.
func showValue(b []byte, v api.Value, bits func(x float64) uint64) []byte {
	b = strconv.AppendInt(append(b, '{'), int64(v.Kind), 10)
	b = strconv.AppendInt(append(b, ' '), v.Int, 10)
	b = strconv.AppendUint(append(b, ' '), bits(v.Float), 16)
	b = strconv.AppendQuote(append(b, ' '), v.Text)
	for _, item := range v.Items {
		b = showValue(b, item, bits)
	}
	return append(b, '}')
}

func show(r api.Row, bits func(x float64) uint64) string {
	var b []byte
	for _, v := range r.Values {
		b = showValue(b, v, bits)
	}
	return string(b)
}

func fixedBits(x float64) uint64 {
	if x != x {
		return theNaN
	}
	return math.Float64bits(x)
}

// exact is what a row holds, to the bit; fixed is that with the one NaN.
func exact(r api.Row) string { return show(r, math.Float64bits) }

func fixed(r api.Row) string { return show(r, fixedBits) }

// kinds is a type's kinds, the outermost first.
func kinds(t api.Type) string {
	l := strconv.Itoa(t.Kind)
	for _, inner := range t.Of {
		l += " " + kinds(inner)
	}
	return l
}

// columnKinds is what a message says of a schema.
func columnKinds(s api.Schema) string {
	var l []string
	for _, c := range s.Columns {
		l = append(l, kinds(c.Type))
	}
	return strings.Join(l, ", ")
}

// wordIsOf is whether a value has a type's kinds, by levels: pairs of a value and a type that are left to ask.
func wordIsOf(v api.Value, t api.Type) bool {
	type under struct {
		v api.Value
		t api.Type
	}
	left := []under{{v, t}}
	for len(left) > 0 {
		now := left[len(left)-1]
		left = left[:len(left)-1]
		if now.v.Kind != now.t.Kind {
			return false
		}
		for _, item := range now.v.Items {
			left = append(left, under{item, now.t.Of[0]})
		}
	}
	return true
}

// wordEncodeValue is EncodeValue by the words.
func wordEncodeValue(t api.Type, v api.Value) ([]byte, api.Errno) {
	if e := schema.CheckType(t); e != api.OK {
		return nil, e
	}
	if e := value.Check(v); e != api.OK {
		return nil, e
	}
	if !wordIsOf(v, t) {
		return nil, api.ErrType
	}
	return wordValue(nil, v), api.OK
}

// wordEncode is Encode by the words.
func wordEncode(s api.Schema, r api.Row) ([]byte, api.Errno) {
	if e := schema.Check(s); e != api.OK {
		return nil, e
	}
	if len(r.Values) != len(s.Columns) {
		return nil, api.ErrType
	}
	var all []byte
	for i, c := range s.Columns {
		b, e := wordEncodeValue(c.Type, r.Values[i])
		if e != api.OK {
			return nil, e
		}
		all = append(all, b...)
	}
	if len(all) > 1024 {
		return nil, api.ErrLong
	}
	return all, api.OK
}

// wordValue lays a value's bytes behind b.
func wordValue(b []byte, v api.Value) []byte {
	switch v.Kind {
	case api.Bool:
		b = append(b, byte(v.Int))
	case api.Int:
		b = binary.AppendVarint(b, v.Int)
	case api.Float:
		b = binary.LittleEndian.AppendUint64(b, fixedBits(v.Float))
	case api.Text, api.Bytes:
		b = append(binary.AppendUvarint(b, uint64(len(v.Text))), v.Text...)
	case api.Opt:
		if len(v.Items) == 0 {
			return append(b, 0)
		}
		b = wordValue(append(b, 1), v.Items[0])
	case api.List:
		b = binary.AppendUvarint(b, uint64(len(v.Items)))
		for _, item := range v.Items {
			b = wordValue(b, item)
		}
	}
	return b
}

// cursor reads by the words. Whatever it reads behind its first error counts for nothing.
type cursor struct {
	b  []byte
	at int
	e  api.Errno
}

// fail keeps the first error, and tells whether there is one.
func (c *cursor) fail(applies bool, e api.Errno) bool {
	if c.e == api.OK && applies {
		c.e = e
	}
	return c.e != api.OK
}

func (c *cursor) left() int { return len(c.b) - c.at }

func (c *cursor) number() uint64 {
	if c.e != api.OK {
		return 0
	}
	n, behind, e := leb.Get(c.b, c.at)
	if c.fail(e != api.OK, e) {
		return 0
	}
	c.at = behind
	return n
}

func (c *cursor) one() byte {
	if c.fail(c.left() < 1, api.ErrShort) {
		return 0
	}
	c.at++
	return c.b[c.at-1]
}

func (c *cursor) some(n uint64) string {
	if c.fail(uint64(c.left()) < n, api.ErrShort) {
		return ""
	}
	c.at += int(n)
	return string(c.b[c.at-int(n) : c.at])
}

// yes reads 00 or 01.
func (c *cursor) yes() bool {
	b := c.one()
	c.fail(b != 0 && b != 1, api.ErrForm)
	return b == 1
}

func (c *cursor) value(t api.Type) api.Value {
	v := api.Value{Kind: t.Kind}
	n := uint64(0)
	switch t.Kind {
	case api.Bool:
		if c.yes() {
			v.Int = 1
		}
	case api.Int:
		u := c.number()
		v.Int = int64(u / 2)
		if u%2 == 1 {
			v.Int = -v.Int - 1
		}
	case api.Float:
		if s := c.some(8); s != "" {
			bits := binary.LittleEndian.Uint64([]byte(s))
			v.Float = math.Float64frombits(bits)
			c.fail(v.Float != v.Float && bits != theNaN, api.ErrForm)
		}
	case api.Text, api.Bytes:
		n = c.number()
		c.fail(n > 1024, api.ErrLong)
		v.Text = c.some(n)
		c.fail(t.Kind == api.Text && !utf8.ValidString(v.Text), api.ErrUtf)
		n = 0
	case api.Opt:
		if c.yes() {
			n = 1
		}
	case api.List:
		n = c.number()
		c.fail(n > 256, api.ErrMany)
	}
	for ; n > 0 && c.e == api.OK; n-- {
		v.Items = append(v.Items, c.value(t.Of[0]))
	}
	return v
}

// wordDecode is Decode by the words, wordDecodeValue DecodeValue.
func wordDecode(s api.Schema, b []byte, at int) (api.Row, int, api.Errno) {
	if e := schema.Check(s); e != api.OK {
		return api.Row{}, 0, e
	}
	if at < 0 || at > len(b) {
		return api.Row{}, 0, api.ErrShort
	}
	c := &cursor{b: b, at: at}
	var r api.Row
	for _, column := range s.Columns {
		if c.e == api.OK {
			r.Values = append(r.Values, c.value(column.Type))
		}
	}
	if c.fail(c.at-at > 1024, api.ErrLong) {
		return api.Row{}, 0, c.e
	}
	return r, c.at, api.OK
}

func wordDecodeValue(t api.Type, b []byte, at int) (api.Value, int, api.Errno) {
	if e := schema.CheckType(t); e != api.OK {
		return api.Value{}, 0, e
	}
	if at < 0 || at > len(b) {
		return api.Value{}, 0, api.ErrShort
	}
	c := &cursor{b: b, at: at}
	v := c.value(t)
	if c.e != api.OK {
		return api.Value{}, 0, c.e
	}
	return v, c.at, api.OK
}

// source is bytes that are taken one by one; behind their end come zeros.
type source struct{ left []byte }

func (r *source) next() int {
	if len(r.left) == 0 {
		return 0
	}
	b := r.left[0]
	r.left = r.left[1:]
	return int(b)
}

func (r *source) float() float64 {
	k := r.next() % (len(nanBits) + len(otherFloats))
	if k < len(nanBits) {
		return math.Float64frombits(nanBits[k])
	}
	return otherFloats[k-len(nanBits)]
}

// kinds is a type at a depth: most often one that may be.
func (r *source) kinds(depth int) api.Type {
	t := kind(1 + r.next()%7)
	wild := r.next()
	switch {
	case wild >= 253:
		return kind([]int{0, -1, 8}[wild-253])
	case wild == 252:
		return kind(t.Kind, ofInt, ofInt)
	case wild == 251:
		return kind(api.Text, ofInt)
	case t.Kind < 6 || wild == 250 || depth > 4:
		return t
	case depth == 4 && wild < 128:
		return kind(1 + wild%5)
	}
	t.Of = []api.Type{r.kinds(depth + 1)}
	return t
}

var someInts = []int64{0, 1, -1, 63, 64, -64, -65, 8191, 8192, math.MaxInt64, math.MinInt64}

var someTexts = []string{"", "a", "\x00", "\u00e9", "\ufffd", strings.Repeat("ab", 60), strings.Repeat("\u00e9", 64), strings.Repeat("a", 127), strings.Repeat("a", 128)}

// value is a value that is most often of the type.
func (r *source) value(t api.Type) api.Value {
	v := api.Value{Kind: t.Kind}
	wild := r.next()
	if wild >= 250 {
		return []api.Value{{}, {Kind: 8}, boolean(2), number(5), text("\xff"), text("a"), rawBytes("\xff"), opt(number(1), number(1)), list(number(1), text("a")), list(times(257, boolean(1))...), text(strings.Repeat("a", 1025))}[r.next()%11]
	}
	switch t.Kind {
	case api.Bool:
		v.Int = int64(wild % 2)
	case api.Int:
		v.Int = someInts[r.next()%len(someInts)]
	case api.Float:
		v.Float = r.float()
	case api.Text, api.Bytes:
		v.Text = someTexts[r.next()%len(someTexts)]
	case api.Opt, api.List:
		for range wild % (2 + t.Kind%2*2) {
			if len(t.Of) > 0 {
				v.Items = append(v.Items, r.value(t.Of[0]))
			}
		}
	}
	if wild >= 240 {
		v.Items = append(v.Items, times(200, r.value(ofBytes))...)
	}
	return v
}

// schema is a schema: most often one that may be.
func (r *source) schema() api.Schema {
	var s api.Schema
	count := 1 + r.next()%4
	if wild := r.next(); wild >= 240 {
		count = wild - 240 + 2
	}
	for i := range count {
		c := plain("c"+strconv.Itoa(i), r.kinds(1))
		switch wild := r.next(); {
		case wild == 255:
			c.Name = "c0"
		case wild == 254:
			c.Default = number(1)
		case wild%4 == 1:
			c.Has, c.Default = true, r.value(c.Type)
		}
		s.Columns = append(s.Columns, c)
	}
	return s
}

// row is a row: quite often one of the schema.
func (r *source) row(s api.Schema) api.Row {
	var l []api.Value
	for _, c := range s.Columns {
		l = append(l, r.value(c.Type))
	}
	switch wild := r.next(); {
	case wild == 255:
		l = append(l, number(1))
	case wild == 254 && len(l) > 0:
		l = l[1:]
	}
	return values(l...)
}

// pair is a schema and a row for it.
type pair struct {
	s api.Schema
	r api.Row
}

// manyPairs are mixed schemas with rows, right ones and wrong ones.
func manyPairs() []pair {
	var l []pair
	for k := range uint64(4000) {
		r := source{mixedBytes(k, 200)}
		s := r.schema()
		l = append(l, pair{s, r.row(s)})
	}
	return l
}

// rightPairs are those of manyPairs whose rows may be.
func rightPairs() []pair {
	var l []pair
	for _, one := range manyPairs() {
		if _, e := wordEncode(one.s, one.r); e == api.OK {
			l = append(l, one)
		}
	}
	return l
}
