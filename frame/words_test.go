package frame_test

import (
	"encoding/binary"
	"hash/crc32"
	"math"
	"slices"
	"strconv"
	"strings"

	"gabion/api"
	"gabion/leb"
	"gabion/schema"
	"gabion/stuff"
)

const (
	theNaN    = 0x7ff8000000000000
	maxNumber = int64(1) << 31
	maxSeq    = int64(1) << 40
)

var minusZero = math.Copysign(0, -1)

// nanBits are bits of NaNs: the one, and others, quiet and signalling ones, of either sign.
var nanBits = []uint64{
	theNaN, 0x7ff0000000000001, 0x7ff4000000000000, 0x7ff7ffffffffffff, 0x7ff8000000000001, 0x7fffffffffffffff,
	0xfff0000000000001, 0xfff7ffffffffffff, 0xfff8000000000000, 0xfff8000000000001, 0xffffffffffffffff,
}

func kind(k int, of ...api.Type) api.Type { return api.Type{Kind: k, Of: of} }

var (
	ofBool  = kind(api.Bool)
	ofInt   = kind(api.Int)
	ofFloat = kind(api.Float)
	ofText  = kind(api.Text)
	ofBytes = kind(api.Bytes)
)

func optOf(t api.Type) api.Type { return kind(api.Opt, t) }

func listOf(t api.Type) api.Type { return kind(api.List, t) }

func boolean(n int64) api.Value { return api.Value{Kind: api.Bool, Int: n} }

func number(n int64) api.Value { return api.Value{Kind: api.Int, Int: n} }

func float(x float64) api.Value { return api.Value{Kind: api.Float, Float: x} }

func nan(bits uint64) api.Value { return float(math.Float64frombits(bits)) }

func text(s string) api.Value { return api.Value{Kind: api.Text, Text: s} }

func rawBytes(s string) api.Value { return api.Value{Kind: api.Bytes, Text: s} }

func opt(items ...api.Value) api.Value { return api.Value{Kind: api.Opt, Items: items} }

func list(items ...api.Value) api.Value { return api.Value{Kind: api.List, Items: items} }

func times(n int, v api.Value) []api.Value { return slices.Repeat([]api.Value{v}, n) }

func plain(name string, t api.Type) api.Column { return api.Column{Name: name, Type: t} }

func with(name string, t api.Type, v api.Value) api.Column {
	return api.Column{Name: name, Type: t, Has: true, Default: v}
}

func of(columns ...api.Column) api.Schema { return api.Schema{Columns: columns} }

// ints is the schema of the chapter's examples.
var ints = of(plain("a", ofInt))

// wide is a schema of n columns of unlike names.
func wide(n int) api.Schema {
	s := api.Schema{}
	for i := range n {
		s.Columns = append(s.Columns, plain("c"+strconv.Itoa(i), ofInt))
	}
	return s
}

// longSchema is a schema of n bytes, from 200 on.
func longSchema(n int) api.Schema {
	return of(with("a", ofBytes, rawBytes(strings.Repeat("x", n-7))))
}

func schemaFrame(number int64, s api.Schema) api.Frame {
	return api.Frame{Kind: api.SchemaFrame, Number: number, Schema: s}
}

func dataFrame(number, seq, first int64, rows int, block string) api.Frame {
	return api.Frame{Kind: api.DataFrame, Number: number, Seq: seq, First: first, Rows: rows, Block: []byte(block)}
}

func indexFrame(at, frames, rows int64, entries ...api.Entry) api.Frame {
	return api.Frame{Kind: api.IndexFrame, Index: api.Index{At: at, Frames: frames, Rows: rows, Entries: entries}}
}

func entry(at, row, schema int64) api.Entry { return api.Entry{At: at, Row: row, Schema: schema} }

// mixed is the n-th of a row of well mixed words, the same ones in every run.
func mixed(n uint64) uint64 {
	z := (n + 1) * 0x9e3779b97f4a7c15
	z = (z ^ z>>30) * 0xbf58476d1ce4e5b9
	z = (z ^ z>>27) * 0x94d049bb133111eb
	return z ^ z>>31
}

func mixedBytes(seed uint64, n int) []byte {
	b := make([]byte, n)
	for i := range b {
		b[i] = byte(mixed(seed<<20 + uint64(i)))
	}
	return b
}

// noZeros is n mixed bytes without a zero.
func noZeros(seed uint64, n int) string {
	b := mixedBytes(seed, n)
	for i := range b {
		b[i] = max(b[i], 1)
	}
	return string(b)
}

// leb128 is a number's bytes.
func leb128(n uint64) string { return string(binary.AppendUvarint(nil, n)) }

// withSum is a kind and its fields, with their right check.
func withSum(b string) []byte {
	return binary.LittleEndian.AppendUint32([]byte(b), crc32.ChecksumIEEE([]byte(b)))
}

// run is that, stuffed.
func run(b string) []byte { return stuff.Stuff(withSum(b)) }

// fenced is a run between its fences.
func fenced(run []byte) []byte { return slices.Concat([]byte{0}, run, []byte{0}) }

func fixedBits(x float64) uint64 {
	if x != x {
		return theNaN
	}
	return math.Float64bits(x)
}

// showValue lays all that a value holds behind b, the floats by the bits that bits tells of them; unlike values have unlike texts.
func showValue(b []byte, v api.Value, bits func(x float64) uint64) []byte {
	b = strconv.AppendInt(append(b, '{'), int64(v.Kind), 10)
	b = strconv.AppendInt(append(b, ' '), v.Int, 10)
	b = strconv.AppendUint(append(b, ' '), bits(v.Float), 16)
	b = strconv.AppendQuoteToASCII(append(b, ' '), v.Text)
	for _, item := range v.Items {
		b = showValue(b, item, bits)
	}
	return append(b, '}')
}

func showType(b []byte, t api.Type) []byte {
	b = strconv.AppendInt(append(b, '<'), int64(t.Kind), 10)
	for _, inner := range t.Of {
		b = showType(b, inner)
	}
	return append(b, '>')
}

// show is all that a frame holds.
func show(f api.Frame, bits func(x float64) uint64) string {
	b := []byte("kind")
	for _, n := range []int64{int64(f.Kind), f.Number, f.Seq, f.First, int64(f.Rows), f.Index.At, f.Index.Frames, f.Index.Rows} {
		b = strconv.AppendInt(append(b, ' '), n, 10)
	}
	for _, c := range f.Schema.Columns {
		b = showType(strconv.AppendQuote(append(b, " ["...), c.Name), c.Type)
		b = append(showValue(strconv.AppendBool(b, c.Has), c.Default, bits), ']')
	}
	for _, one := range f.Index.Entries {
		for _, n := range []int64{one.At, one.Row, one.Schema} {
			b = strconv.AppendInt(append(b, " -"...), n, 10)
		}
	}
	return string(strconv.AppendQuoteToASCII(append(b, ' '), string(f.Block)))
}

// exact is what a frame holds, to the bit; fixed is that with the one NaN.
func exact(f api.Frame) string { return show(f, math.Float64bits) }

func fixed(f api.Frame) string { return show(f, fixedBits) }

// brief is the beginning of a text, as whole ones would hide what is wrong with them.
func brief(s string) string { return s[:min(len(s), 300)] }

// bare is a frame without the fields that don't count.
func bare(f api.Frame) api.Frame {
	g := api.Frame{Kind: f.Kind}
	if f.Kind == 1 || f.Kind == 2 {
		g.Number = f.Number
	}
	if f.Kind == 1 {
		g.Schema = f.Schema
	}
	if f.Kind == 2 {
		g.Seq, g.First, g.Rows, g.Block = f.Seq, f.First, f.Rows, f.Block
	}
	if f.Kind == 3 {
		g.Index = f.Index
	}
	return g
}

// bounded is a number and the least and the greatest that it may be.
type bounded struct{ n, least, most int64 }

func outside(l ...bounded) bool {
	return slices.ContainsFunc(l, func(b bounded) bool { return b.n < b.least || b.n > b.most })
}

func small(n int64) bounded { return bounded{n, 0, maxNumber - 1} }

func large(n int64) bounded { return bounded{n, 0, maxSeq - 1} }

// wordCheck is P12.1's errors by the words, without the last one.
func wordCheck(f api.Frame) api.Errno {
	switch f.Kind {
	case 1:
		if outside(small(f.Number)) {
			return api.ErrRange
		}
		return schema.Check(f.Schema)
	case 2:
		if outside(small(f.Number), large(f.Seq), large(f.First), bounded{int64(f.Rows), 1, 64}) {
			return api.ErrRange
		}
		return api.OK
	case 3:
		x := f.Index
		wrong := slices.ContainsFunc(x.Entries, func(one api.Entry) bool { return outside(large(one.At), large(one.Row), large(one.Schema)) })
		switch {
		case outside(large(x.At), large(x.Frames), large(x.Rows)):
			return api.ErrRange
		case len(x.Entries) >= 65:
			return api.ErrMany
		case wrong:
			return api.ErrRange
		}
		return api.OK
	}
	return api.ErrKind
}

// wordFields are the kind and the fields of a frame that may be, by the document's table.
func wordFields(f api.Frame) string {
	var numbers []int64
	behind := ""
	switch f.Kind {
	case 1:
		b, _ := schema.Encode(f.Schema)
		numbers, behind = []int64{f.Number}, string(b)
	case 2:
		numbers, behind = []int64{f.Number, f.Seq, f.First, int64(f.Rows)}, string(f.Block)
	case 3:
		numbers = []int64{f.Index.At, f.Index.Frames, f.Index.Rows, int64(len(f.Index.Entries))}
		for _, one := range f.Index.Entries {
			numbers = append(numbers, one.At, one.Row, one.Schema)
		}
	}
	b := []byte{byte(f.Kind)}
	for _, n := range numbers {
		b = binary.AppendUvarint(b, uint64(n))
	}
	return string(b) + behind
}

// wordEncode is P12.1 by the words.
func wordEncode(f api.Frame) ([]byte, api.Errno) {
	if e := wordCheck(f); e != api.OK {
		return nil, e
	}
	b := run(wordFields(f))
	if len(b) >= 2201 {
		return nil, api.ErrLong
	}
	return fenced(b), api.OK
}

// cursor reads numbers by the words. Whatever it reads behind the first one that is wrong counts for nothing.
type cursor struct {
	left  []byte
	wrong bool
}

func (c *cursor) number(least, most uint64) int64 {
	n, behind, e := leb.Get(c.left, 0)
	if c.wrong || e != api.OK || n < least || n > most {
		c.wrong = true
		return 0
	}
	c.left = c.left[behind:]
	return int64(n)
}

func (c *cursor) small() int64 { return c.number(0, 1<<31-1) }

func (c *cursor) large() int64 { return c.number(0, 1<<40-1) }

// wordDecode is P12.2 by the words.
func wordDecode(b []byte) (api.Frame, api.Errno) {
	if len(b) >= 2201 {
		return api.Frame{}, api.ErrLong
	}
	body, e := stuff.Unstuff(b)
	if e != api.OK {
		return api.Frame{}, e
	}
	if len(body) <= 4 {
		return api.Frame{}, api.ErrShort
	}
	under := body[:len(body)-4]
	switch {
	case crc32.ChecksumIEEE(under) != binary.LittleEndian.Uint32(body[len(under):]):
		return api.Frame{}, api.ErrSum
	case under[0] == 0 || under[0] >= 4:
		return api.Frame{}, api.ErrKind
	}
	return wordRead(int(under[0]), slices.Clone(under[1:]))
}

func wordRead(kind int, b []byte) (api.Frame, api.Errno) {
	f, c, e := api.Frame{Kind: kind}, &cursor{left: b}, api.OK
	switch kind {
	case 1:
		f.Number = c.small()
		f.Schema, e = schema.Decode(c.left)
	case 2:
		f.Number = c.small()
		f.Seq = c.large()
		f.First = c.large()
		f.Rows = int(c.number(1, 64))
		f.Block = c.left
	case 3:
		f.Index.At = c.large()
		f.Index.Frames = c.large()
		f.Index.Rows = c.large()
		for n := c.number(0, 64); n > 0; n-- {
			var one api.Entry
			one.At = c.large()
			one.Row = c.large()
			one.Schema = c.large()
			f.Index.Entries = append(f.Index.Entries, one)
		}
		c.wrong = c.wrong || len(c.left) > 0
	}
	if c.wrong {
		e = api.ErrForm
	}
	if e != api.OK {
		return api.Frame{}, e
	}
	return f, api.OK
}
