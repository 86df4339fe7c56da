package resolve_test

import (
	"math"
	"math/big"
	"slices"
	"strconv"
	"strings"
	"unicode/utf8"

	"gabion/api"
	"gabion/schema"
	"gabion/value"
)

const theNaN = 0x7ff8000000000000

var minusZero = math.Copysign(0, -1)

// nanBits are bits of NaNs: the one, and others, quiet and signalling ones, of either sign.
var nanBits = []uint64{
	theNaN, 0x7ff0000000000001, 0x7ff4000000000000, 0x7ff7ffffffffffff, 0x7ff8000000000001, 0x7fffffffffffffff,
	0xfff0000000000001, 0xfff7ffffffffffff, 0xfff8000000000000, 0xfff8000000000001, 0xffffffffffffffff,
}

func kind(k int, of ...api.Type) api.Type { return api.Type{Kind: k, Of: of} }

var (
	ofBool  = kind(api.Bool)
	ofInt   = kind(api.Int)
	ofFloat = kind(api.Float)
	ofText  = kind(api.Text)
	ofBytes = kind(api.Bytes)
	plains  = []api.Type{ofBool, ofInt, ofFloat, ofText, ofBytes}
)

func optOf(t api.Type) api.Type { return kind(api.Opt, t) }

func listOf(t api.Type) api.Type { return kind(api.List, t) }

// within is t under that many lists, or Opts.
func within(n, k int, t api.Type) api.Type {
	for range n {
		t = kind(k, t)
	}
	return t
}

func boolean(n int64) api.Value { return api.Value{Kind: api.Bool, Int: n} }

func number(n int64) api.Value { return api.Value{Kind: api.Int, Int: n} }

func float(x float64) api.Value { return api.Value{Kind: api.Float, Float: x} }

func nan(bits uint64) api.Value { return float(math.Float64frombits(bits)) }

func text(s string) api.Value { return api.Value{Kind: api.Text, Text: s} }

func rawBytes(s string) api.Value { return api.Value{Kind: api.Bytes, Text: s} }

func opt(items ...api.Value) api.Value { return api.Value{Kind: api.Opt, Items: items} }

func list(items ...api.Value) api.Value { return api.Value{Kind: api.List, Items: items} }

// times is v, n times.
func times(n int, v api.Value) []api.Value { return slices.Repeat([]api.Value{v}, n) }

func plain(name string, t api.Type) api.Column { return api.Column{Name: name, Type: t} }

func with(name string, t api.Type, v api.Value) api.Column {
	return api.Column{Name: name, Type: t, Has: true, Default: v}
}

func of(columns ...api.Column) api.Schema { return api.Schema{Columns: columns} }

func values(l ...api.Value) api.Row { return api.Row{Values: l} }

// alone is a schema of one column of that type.
func alone(t api.Type) api.Schema { return of(plain("a", t)) }

// wide is a schema of n columns of unlike names.
func wide(n int) api.Schema {
	s := api.Schema{}
	for i := range n {
		s.Columns = append(s.Columns, plain("c"+strconv.Itoa(i), ofInt))
	}
	return s
}

// everyType is all types that may be: five of each kind without another one, each of these under up to three Opts and lists.
func everyType() []api.Type {
	all := slices.Clone(plains)
	for last := all; len(last) < 40; {
		var next []api.Type
		for _, t := range last {
			next = append(next, optOf(t), listOf(t))
		}
		all = append(all, next...)
		last = next
	}
	return all
}

// valuesOf is values of a type: those at the edges, none, there, and lists of none, of each and of two.
func valuesOf(t api.Type) []api.Value {
	switch t.Kind {
	case api.Bool:
		return []api.Value{boolean(0), boolean(1)}
	case api.Int:
		return []api.Value{number(-7), number(1<<53 + 1), number(math.MinInt64)}
	case api.Float:
		return []api.Value{float(-7), float(minusZero), nan(nanBits[8]), float(-1 << 63)}
	case api.Text:
		return []api.Value{text(""), text("\u00e9"), text("a\x00")}
	case api.Bytes:
		return []api.Value{rawBytes(""), rawBytes("\u00e9"), rawBytes("a\xff")}
	}
	inner := valuesOf(t.Of[0])
	all := []api.Value{{Kind: t.Kind}}
	for _, v := range inner {
		all = append(all, api.Value{Kind: t.Kind, Items: []api.Value{v}})
	}
	if t.Kind == api.List {
		all = append(all, list(inner...), list(inner[0], inner[0]))
		slices.Reverse(inner)
		all = append(all, list(inner...))
	}
	return all
}

// mixed is the n-th of a row of well mixed words, the same ones in every run.
func mixed(n uint64) uint64 {
	z := (n + 1) * 0x9e3779b97f4a7c15
	z = (z ^ z>>30) * 0xbf58476d1ce4e5b9
	z = (z ^ z>>27) * 0x94d049bb133111eb
	return z ^ z>>31
}

func mixedBytes(seed uint64, n int) []byte {
	b := make([]byte, n)
	for i := range b {
		b[i] = byte(mixed(seed<<20 + uint64(i)))
	}
	return b
}

// showValue lays all that a value holds behind b, the floats by the bits that bits tells of them; unlike values have unlike texts.
func showValue(b []byte, v api.Value, bits func(x float64) uint64) []byte {
	b = strconv.AppendInt(append(b, '{'), int64(v.Kind), 10)
	b = strconv.AppendInt(append(b, ' '), v.Int, 10)
	b = strconv.AppendUint(append(b, ' '), bits(v.Float), 16)
	b = strconv.AppendQuote(append(b, ' '), v.Text)
	for _, item := range v.Items {
		b = showValue(b, item, bits)
	}
	return append(b, '}')
}

func show(l []api.Value, bits func(x float64) uint64) string {
	var b []byte
	for _, v := range l {
		b = showValue(b, v, bits)
	}
	return string(b)
}

func fixedBits(x float64) uint64 {
	if x != x {
		return theNaN
	}
	return math.Float64bits(x)
}

// exact is what values hold, to the bit; fixed is that with the one NaN.
func exact(l ...api.Value) string { return show(l, math.Float64bits) }

func fixed(l ...api.Value) string { return show(l, fixedBits) }

// shown is a type's kinds, the outermost first.
func shown(t api.Type) string {
	l := strconv.Itoa(t.Kind)
	for _, inner := range t.Of {
		l += "<" + shown(inner) + ">"
	}
	return l
}

// columns is all that a schema holds, the floats as show tells them.
func columns(s api.Schema, show func(l ...api.Value) string) string {
	var b strings.Builder
	for _, c := range s.Columns {
		b.WriteString(strconv.Quote(c.Name) + " " + shown(c.Type) + " " + strconv.FormatBool(c.Has) + " " + show(c.Default) + ", ")
	}
	return b.String()
}

// peel takes the Opts off the outside of a type: how many there are, and what stands within.
func peel(t api.Type) (int, api.Type) {
	n := 0
	for t.Kind == api.Opt {
		t = t.Of[0]
		n++
	}
	return n, t
}

// readable is which kind that is of no other one can be read as which.
var readable = [][2]int{
	{api.Bool, api.Bool}, {api.Int, api.Int}, {api.Float, api.Float}, {api.Text, api.Text}, {api.Bytes, api.Bytes},
	{api.Int, api.Float}, {api.Float, api.Int}, {api.Bool, api.Int}, {api.Text, api.Bytes}, {api.Bytes, api.Text},
}

// wordReadable leaves all Opts out, which may come and go: what is left are as many lists of two plain kinds.
func wordReadable(from, to api.Type) bool {
	for {
		_, from = peel(from)
		_, to = peel(to)
		if from.Kind != api.List || to.Kind != api.List {
			return slices.Contains(readable, [2]int{from.Kind, to.Kind})
		}
		from, to = from.Of[0], to.Of[0]
	}
}

// wordRead goes by how many Opts stand ahead on either side: as many as both have stay as they are, those that are left must be there, or are made.
func wordRead(from, to api.Type, v api.Value) (api.Value, api.Errno) {
	has, from := peel(from)
	wants, to := peel(to)
	for depth := range has {
		if len(v.Items) == 0 && depth < wants {
			return there(depth, opt()), api.OK
		}
		if len(v.Items) == 0 {
			return api.Value{}, api.ErrAbsent
		}
		v = v.Items[0]
	}
	told := api.Value{Kind: to.Kind}
	if to.Kind != api.List {
		var e api.Errno
		if told, e = wordPlain(to.Kind, v); e != api.OK {
			return api.Value{}, e
		}
	}
	for _, item := range v.Items {
		one, e := wordRead(from.Of[0], to.Of[0], item)
		if e != api.OK {
			return api.Value{}, e
		}
		told.Items = append(told.Items, one)
	}
	return there(wants, told), api.OK
}

// there is v within that many Opts.
func there(n int, v api.Value) api.Value {
	for range n {
		v = opt(v)
	}
	return v
}

// wordPlain reckons with numbers of any length.
func wordPlain(to int, v api.Value) (api.Value, api.Errno) {
	switch {
	case v.Kind == api.Int && to == api.Float:
		x, accuracy := new(big.Float).SetInt64(v.Int).Float64()
		if accuracy != big.Exact {
			return api.Value{}, api.ErrLossy
		}
		return float(x), api.OK
	case v.Kind == api.Float && to == api.Int:
		if v.Float != v.Float || math.Float64bits(v.Float) == 1<<63 {
			return api.Value{}, api.ErrLossy
		}
		n, accuracy := big.NewFloat(v.Float).Int64()
		if accuracy != big.Exact {
			return api.Value{}, api.ErrLossy
		}
		return number(n), api.OK
	case to == api.Float && v.Float != v.Float:
		return nan(theNaN), api.OK
	case to == api.Text && !utf8.ValidString(v.Text):
		return api.Value{}, api.ErrUtf
	}
	return api.Value{Kind: to, Int: v.Int, Float: v.Float, Text: v.Text}, api.OK
}

// wordKeeps is why a value is none of a type: it may not be, or has other kinds, asked by levels.
func wordKeeps(t api.Type, v api.Value) api.Errno {
	if e := value.Check(v); e != api.OK {
		return e
	}
	for level := []api.Value{v}; len(level) > 0; {
		var next []api.Value
		for _, one := range level {
			if one.Kind != t.Kind {
				return api.ErrType
			}
			next = append(next, one.Items...)
		}
		if level = next; len(next) > 0 {
			t = t.Of[0]
		}
	}
	return api.OK
}

// wordValue is Value by the words.
func wordValue(from, to api.Type, v api.Value) (api.Value, api.Errno) {
	for _, t := range []api.Type{from, to} {
		if e := schema.CheckType(t); e != api.OK {
			return api.Value{}, e
		}
	}
	if e := wordKeeps(from, v); e != api.OK {
		return api.Value{}, e
	}
	if !wordReadable(from, to) {
		return api.Value{}, api.ErrKind
	}
	return wordRead(from, to, v)
}

// named is a schema's columns by their names.
func named(s api.Schema) map[string]int {
	places := map[string]int{}
	for i, c := range s.Columns {
		places[c.Name] = i
	}
	return places
}

// wordCheck is Check by the words.
func wordCheck(from, to api.Schema) api.Errno {
	for _, s := range []api.Schema{from, to} {
		if e := schema.Check(s); e != api.OK {
			return e
		}
	}
	places := named(from)
	for _, c := range to.Columns {
		at, is := places[c.Name]
		if is && !wordReadable(from.Columns[at].Type, c.Type) {
			return api.ErrKind
		}
		if !is && !c.Has {
			return api.ErrMissing
		}
	}
	return api.OK
}

// wordRow is Row by the words.
func wordRow(from, to api.Schema, r api.Row) (api.Row, api.Errno) {
	if e := wordCheck(from, to); e != api.OK {
		return api.Row{}, e
	}
	if len(r.Values) != len(from.Columns) {
		return api.Row{}, api.ErrType
	}
	for i, c := range from.Columns {
		if e := wordKeeps(c.Type, r.Values[i]); e != api.OK {
			return api.Row{}, e
		}
	}
	places := named(from)
	var told api.Row
	for _, c := range to.Columns {
		was, v := c.Type, c.Default
		if at, is := places[c.Name]; is {
			was, v = from.Columns[at].Type, r.Values[at]
		}
		v, e := wordRead(was, c.Type, v)
		if e != api.OK {
			return api.Row{}, e
		}
		told.Values = append(told.Values, v)
	}
	return told, api.OK
}

// wordProject is Project by the words.
func wordProject(s api.Schema, names []string) (api.Schema, api.Errno) {
	if e := schema.Check(s); e != api.OK {
		return api.Schema{}, e
	}
	if len(names) == 0 {
		return api.Schema{}, api.ErrEmpty
	}
	places, ahead := named(s), map[string]bool{}
	var told api.Schema
	for _, name := range names {
		if ahead[name] {
			return api.Schema{}, api.ErrTwice
		}
		ahead[name] = true
		at, is := places[name]
		if !is {
			return api.Schema{}, api.ErrMissing
		}
		told.Columns = append(told.Columns, s.Columns[at])
	}
	return told, api.OK
}
