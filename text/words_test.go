package text_test

import (
	"fmt"
	"math"
	"math/big"
	"regexp"
	"slices"
	"strconv"
	"strings"

	"gabion/api"
	"gabion/schema"
	"gabion/value"
)

const theNaN = 0x7ff8000000000000

var minusZero = math.Copysign(0, -1)

// nanBits are bits of NaNs: the one, and others, quiet and signalling ones, of either sign.
var nanBits = []uint64{
	theNaN, 0x7ff0000000000001, 0x7ff4000000000000, 0x7ff7ffffffffffff, 0x7ff8000000000001, 0x7fffffffffffffff,
	0xfff0000000000001, 0xfff7ffffffffffff, 0xfff8000000000000, 0xfff8000000000001, 0xffffffffffffffff,
}

// otherFloats are floats at the edges, unlike each other, no NaN.
var otherFloats = []float64{
	0, minusZero, 1, -1, 12345, 0.5, -0.5, math.Inf(1), math.Inf(-1), math.MaxFloat64, -math.MaxFloat64,
	math.SmallestNonzeroFloat64, -math.SmallestNonzeroFloat64, 1<<53 - 1, 1 - 1<<53, 1 << 53, -1 << 53, -1 << 63,
}

func kind(k int, of ...api.Type) api.Type { return api.Type{Kind: k, Of: of} }

var (
	ofBool  = kind(api.Bool)
	ofInt   = kind(api.Int)
	ofFloat = kind(api.Float)
	ofText  = kind(api.Text)
	ofBytes = kind(api.Bytes)
)

func optOf(t api.Type) api.Type { return kind(api.Opt, t) }

func listOf(t api.Type) api.Type { return kind(api.List, t) }

// allTypes are the 75 types that may be.
func allTypes() []api.Type {
	all := []api.Type{ofBool, ofInt, ofFloat, ofText, ofBytes}
	for level := all; len(all) < 75; {
		var next []api.Type
		for _, t := range level {
			next = append(next, optOf(t), listOf(t))
		}
		level = next
		all = append(all, level...)
	}
	return all
}

func boolean(n int64) api.Value { return api.Value{Kind: api.Bool, Int: n} }

func number(n int64) api.Value { return api.Value{Kind: api.Int, Int: n} }

func float(x float64) api.Value { return api.Value{Kind: api.Float, Float: x} }

func nan(bits uint64) api.Value { return float(math.Float64frombits(bits)) }

func words(s string) api.Value { return api.Value{Kind: api.Text, Text: s} }

func rawBytes(s string) api.Value { return api.Value{Kind: api.Bytes, Text: s} }

func opt(items ...api.Value) api.Value { return api.Value{Kind: api.Opt, Items: items} }

func list(items ...api.Value) api.Value { return api.Value{Kind: api.List, Items: items} }

func values(l ...api.Value) api.Row { return api.Row{Values: l} }

// times is v, n times.
func times(n int, v api.Value) []api.Value { return slices.Repeat([]api.Value{v}, n) }

// joined is s, n times, ", " between each two.
func joined(n int, s string) string { return strings.Join(slices.Repeat([]string{s}, n), ", ") }

func plain(name string, t api.Type) api.Column { return api.Column{Name: name, Type: t} }

func with(name string, t api.Type, v api.Value) api.Column {
	return api.Column{Name: name, Type: t, Has: true, Default: v}
}

func of(columns ...api.Column) api.Schema { return api.Schema{Columns: columns} }

// wide is a schema of n columns of unlike names, wideText its text.
func wide(n int) api.Schema {
	s := api.Schema{}
	for i := range n {
		s.Columns = append(s.Columns, plain("c"+strconv.Itoa(i), ofInt))
	}
	return s
}

func wideText(n int) string {
	var l []string
	for i := range n {
		l = append(l, fmt.Sprintf("c%d int", i))
	}
	return strings.Join(l, ", ")
}

// mixed is the n-th of a row of well mixed words, the same ones in every run.
func mixed(n uint64) uint64 {
	z := (n + 1) * 0x9e3779b97f4a7c15
	z = (z ^ z>>30) * 0xbf58476d1ce4e5b9
	z = (z ^ z>>27) * 0x94d049bb133111eb
	return z ^ z>>31
}

func mixedBytes(seed uint64, n int) []byte {
	b := make([]byte, n)
	for i := range b {
		b[i] = byte(mixed(seed<<20 + uint64(i)))
	}
	return b
}

// show tells all that stands in a type, a schema, a value or a row, to the bit, the floats by the bits that bits tells of them; unlike ones have unlike texts.
func show(x any, bits func(x float64) uint64) string {
	var b strings.Builder
	switch x := x.(type) {
	case api.Type:
		fmt.Fprintf(&b, "<%d", x.Kind)
		for _, t := range x.Of {
			b.WriteString(show(t, bits))
		}
		b.WriteString(">")
	case api.Value:
		fmt.Fprintf(&b, "{%d %d %x %q", x.Kind, x.Int, bits(x.Float), x.Text)
		for _, v := range x.Items {
			b.WriteString(show(v, bits))
		}
		b.WriteString("}")
	case api.Row:
		for _, v := range x.Values {
			b.WriteString(show(v, bits))
		}
	case api.Schema:
		for _, c := range x.Columns {
			fmt.Fprintf(&b, "[%q %v", c.Name, c.Has)
			b.WriteString(show(c.Type, bits) + show(c.Default, bits) + "]")
		}
	default:
		panic("nothing that can be shown")
	}
	return b.String()
}

func fixedBits(x float64) uint64 {
	if x != x {
		return theNaN
	}
	return math.Float64bits(x)
}

// exact is all that something holds, to the bit; fixed is that with the one NaN.
func exact(x any) string { return show(x, math.Float64bits) }

func fixed(x any) string { return show(x, fixedBits) }

// wordType, wordValue, wordSchema, wordRow are the texts, by the words, of what may be.
func wordType(t api.Type) string {
	name := []string{"", "bool", "int", "float", "text", "bytes", "opt", "list"}[t.Kind]
	if len(t.Of) == 0 {
		return name
	}
	return name + "(" + wordType(t.Of[0]) + ")"
}

func wordValue(v api.Value) string {
	switch v.Kind {
	case api.Bool:
		return []string{"false", "true"}[v.Int]
	case api.Int:
		return big.NewInt(v.Int).String()
	case api.Float:
		return "~" + wordFloat(v.Float)
	case api.Text:
		return wordQuoted(v.Text, `"`)
	case api.Bytes:
		return wordQuoted(v.Text, `'`)
	case api.Opt:
		if len(v.Items) == 0 {
			return "none"
		}
		return "some(" + wordValue(v.Items[0]) + ")"
	}
	return "[" + wordRow(values(v.Items...)) + "]"
}

func wordFloat(x float64) string {
	bits := fixedBits(x)
	switch bits {
	case theNaN:
		return "nan"
	case 0x7ff0000000000000:
		return "inf"
	case 0xfff0000000000000:
		return "-inf"
	case 1 << 63:
		return "-0"
	}
	if x == math.Trunc(x) && math.Abs(x) < 1<<53 {
		return fmt.Sprintf("%.0f", x)
	}
	return fmt.Sprintf("x%016x", bits)
}

func wordQuoted(s, q string) string {
	var b strings.Builder
	for i := range len(s) {
		switch c := s[i : i+1]; {
		case c == q || c == `\`:
			b.WriteString(`\` + c)
		case c < " " || c > "~":
			fmt.Fprintf(&b, `\x%02x`, c)
		default:
			b.WriteString(c)
		}
	}
	return q + b.String() + q
}

func wordRow(r api.Row) string {
	var l []string
	for _, v := range r.Values {
		l = append(l, wordValue(v))
	}
	return strings.Join(l, ", ")
}

func wordSchema(s api.Schema) string {
	var l []string
	for _, c := range s.Columns {
		one := c.Name + " " + wordType(c.Type)
		if c.Has {
			one += " = " + wordValue(c.Default)
		}
		l = append(l, one)
	}
	return strings.Join(l, ", ")
}

// rowError is the error of the first value that may not be.
func rowError(r api.Row) api.Errno {
	at := slices.IndexFunc(r.Values, func(v api.Value) bool { return value.Check(v) != api.OK })
	if at < 0 {
		return api.OK
	}
	return value.Check(r.Values[at])
}

// cursor reads by the words. Whatever it reads behind its first error counts for nothing.
type cursor struct {
	s     string
	at    int
	e     api.Errno
	place int
}

// wrong keeps the first error, and where the cursor stands, and tells whether there is one.
func (c *cursor) wrong(applies bool, e api.Errno) bool {
	if c.e == api.OK && applies {
		c.e, c.place = e, c.at
	}
	return c.e != api.OK
}

func (c *cursor) next() string {
	return c.s[c.at:min(c.at+1, len(c.s))]
}

// must goes on behind what must stand there.
func (c *cursor) must(s string) {
	for _, one := range strings.Split(s, "") {
		if c.wrong(c.next() != one, api.ErrForm) {
			return
		}
		c.at++
	}
}

var (
	letters    = regexp.MustCompile(`^[a-z]*`)
	nameBytes  = regexp.MustCompile(`^[a-z0-9_]*`)
	intBytes   = regexp.MustCompile(`^[0-9-]*`)
	floatBytes = regexp.MustCompile(`^[a-z0-9-]*`)
	intText    = regexp.MustCompile(`^(0|-?[1-9][0-9]*)$`)
	bitsText   = regexp.MustCompile(`^x[0-9a-f]{16}$`)
	pieces     = map[string]*regexp.Regexp{
		`"`: regexp.MustCompile(`^([ !#-\[\]-~]|\\["\\]|\\x[0-9a-f][0-9a-f])`),
		`'`: regexp.MustCompile(`^([ -&(-\[\]-~]|\\['\\]|\\x[0-9a-f][0-9a-f])`),
	}
)

// row is the longest row, one of which is refused where it begins.
func (c *cursor) row(of *regexp.Regexp, takes func(s string) bool) string {
	s := of.FindString(c.s[c.at:])
	if c.wrong(!takes(s), api.ErrForm) {
		return ""
	}
	c.at += len(s)
	return s
}

func (c *cursor) kinds(depth int) api.Type {
	if c.wrong(depth > 4, api.ErrDeep) {
		return api.Type{}
	}
	all := []string{"bool", "int", "float", "text", "bytes", "opt", "list"}
	word := c.row(letters, func(s string) bool { return slices.Contains(all, s) })
	t := kind(1 + slices.Index(all, word))
	if t.Kind >= api.Opt {
		c.must("(")
		t.Of = []api.Type{c.kinds(depth + 1)}
		c.must(")")
	}
	return t
}

func (c *cursor) value(depth int) api.Value {
	if c.wrong(depth > 4, api.ErrDeep) {
		return api.Value{}
	}
	next := c.next()
	switch {
	case next == "":
		c.wrong(true, api.ErrForm)
	case next == `"`:
		return words(c.quoted(next))
	case next == `'`:
		return rawBytes(c.quoted(next))
	case next == "[":
		return c.list(depth)
	case next == "~":
		c.at++
		s := c.row(floatBytes, isFloatText)
		return float(floatOf(s))
	case strings.Contains("-0123456789", next):
		n, _ := strconv.ParseInt(c.row(intBytes, isIntText), 10, 64)
		return number(n)
	case next >= "a" && next <= "z":
		return c.word(depth)
	}
	c.wrong(true, api.ErrForm)
	return api.Value{}
}

func (c *cursor) word(depth int) api.Value {
	all := map[string]api.Value{"true": boolean(1), "false": boolean(0), "none": opt(), "some": opt()}
	word := c.row(letters, func(s string) bool { return all[s].Kind != 0 })
	v := all[word]
	if word == "some" {
		c.must("(")
		v.Items = []api.Value{c.value(depth + 1)}
		c.must(")")
	}
	return v
}

func (c *cursor) list(depth int) api.Value {
	c.must("[")
	v := list()
	if c.next() != "]" {
		v.Items = c.values(depth + 1)
	}
	c.must("]")
	return v
}

func (c *cursor) values(depth int) []api.Value {
	l := []api.Value{c.value(depth)}
	for c.e == api.OK && c.next() == "," {
		c.must(", ")
		l = append(l, c.value(depth))
	}
	return l
}

func (c *cursor) quoted(q string) string {
	c.at++
	var b []byte
	for c.next() != q {
		piece := pieces[q].FindString(c.s[c.at:])
		if c.wrong(piece == "", api.ErrForm) {
			return ""
		}
		said := piece[len(piece)-1]
		if len(piece) == 4 {
			n, _ := strconv.ParseUint(piece[2:], 16, 8)
			said = byte(n)
			if c.wrong(n >= 0x20 && n <= 0x7e, api.ErrForm) {
				return ""
			}
		}
		b = append(b, said)
		c.at += len(piece)
	}
	c.at++
	return string(b)
}

func isIntText(s string) bool {
	n, _ := new(big.Int).SetString(s, 10)
	return intText.MatchString(s) && n.IsInt64()
}

func floatOf(s string) float64 {
	switch {
	case s == "nan":
		return math.Float64frombits(theNaN)
	case bitsText.MatchString(s):
		n, _ := strconv.ParseUint(s[1:], 16, 64)
		return math.Float64frombits(n)
	}
	x, _ := strconv.ParseFloat(s, 64)
	return x
}

func isFloatText(s string) bool {
	known := s == "nan" || s == "inf" || s == "-inf" || s == "-0"
	return known || (isIntText(s) || bitsText.MatchString(s)) && wordFloat(floatOf(s)) == s
}

func (c *cursor) column() api.Column {
	name := c.row(nameBytes, func(s string) bool { return s != "" })
	c.must(" ")
	column := plain(name, c.kinds(1))
	if c.e == api.OK && c.next() == " " {
		c.must(" = ")
		column.Has, column.Default = true, c.value(1)
	}
	return column
}

func (c *cursor) schema() api.Schema {
	s := of(c.column())
	for c.e == api.OK && c.next() == "," {
		c.must(", ")
		s.Columns = append(s.Columns, c.column())
	}
	return s
}

// wordParse is what a Parse tells, by the words: of what, read and checked.
func wordParse(what, s string) (any, api.Errno, int) {
	c := &cursor{s: s}
	var told, nothing any
	var e api.Errno
	switch what {
	case "type":
		t := c.kinds(1)
		told, nothing, e = t, api.Type{}, schema.CheckType(t)
	case "schema":
		all := c.schema()
		told, nothing, e = all, api.Schema{}, schema.Check(all)
	case "value":
		v := c.value(1)
		told, nothing, e = v, api.Value{}, value.Check(v)
	case "row":
		r := api.Row{}
		if s != "" {
			r.Values = c.values(1)
		}
		told, nothing, e = r, api.Row{}, rowError(r)
	}
	if c.wrong(c.at < len(s), api.ErrForm) {
		return nothing, c.e, c.place
	}
	if e != api.OK {
		return nothing, e, 0
	}
	return told, api.OK, 0
}
