package schema

import (
	"gabion/api"
	"gabion/leb"
	"gabion/real"
	"gabion/value"
)

const floatBytes = 8

// Encode is a schema's bytes.
func Encode(s api.Schema) ([]byte, api.Errno) {
	if e := checkColumns(s.Columns); e != api.OK {
		return nil, e
	}
	b := leb.Put(uint64(len(s.Columns)))
	for _, c := range s.Columns {
		b = appendColumn(b, c)
	}
	if len(b) > api.MaxSchema {
		return nil, api.ErrLong
	}
	return b, api.OK
}

func appendColumn(b []byte, c api.Column) []byte {
	b = appendText(b, c.Name)
	b = appendType(b, c.Type)
	if !c.Has {
		return append(b, 0)
	}
	return appendValue(append(b, 1), c.Default)
}

func appendType(b []byte, t api.Type) []byte {
	b = append(b, byte(t.Kind))
	for _, of := range t.Of {
		b = appendType(b, of)
	}
	return b
}

func appendValue(b []byte, v api.Value) []byte {
	switch v.Kind {
	case api.Bool:
		return append(b, byte(v.Int))
	case api.Int:
		return append(b, leb.Put(leb.Zig(v.Int))...)
	case api.Float:
		return appendFloat(b, v.Float)
	case api.Text, api.Bytes:
		return appendText(b, v.Text)
	}
	return appendItems(b, v.Items)
}

func appendFloat(b []byte, x float64) []byte {
	bits := real.Bits(x)
	for range floatBytes {
		b = append(b, byte(bits))
		bits >>= 8
	}
	return b
}

func appendText(b []byte, s string) []byte {
	b = append(b, leb.Put(uint64(len(s)))...)
	return append(b, s...)
}

// appendItems serves List and Opt, whose 00 or 01 is how many Items it has.
func appendItems(b []byte, items []api.Value) []byte {
	b = append(b, leb.Put(uint64(len(items)))...)
	for _, item := range items {
		// What is too long already is refused; lists of lists of lists would grow to gigabytes first.
		if len(b) > api.MaxSchema {
			break
		}
		b = appendValue(b, item)
	}
	return b
}

// Decode is the schema whose bytes they are.
func Decode(b []byte) (s api.Schema, e api.Errno) {
	if len(b) > api.MaxSchema {
		return api.Schema{}, api.ErrLong
	}
	defer func() {
		if wrong := recover(); wrong != nil {
			s, e = api.Schema{}, wrong.(api.Errno)
		}
	}()
	r := reader{left: b}
	s = api.Schema{Columns: r.columns()}
	r.need(len(r.left) == 0, api.ErrForm)
	return s, api.OK
}

// A reader reads what may be broken. At the first thing that is wrong it gives up by a panic with the error.
type reader struct{ left []byte }

func (r *reader) need(holds bool, e api.Errno) {
	if !holds {
		panic(e)
	}
}

func (r *reader) columns() []api.Column {
	count := r.count(api.MaxColumns, api.ErrMany)
	r.need(count > 0, api.ErrEmpty)
	var columns []api.Column
	places := make(map[string]int)
	for at := range count {
		name := r.name()
		_, twice := places[name]
		r.need(!twice, api.ErrTwice)
		places[name] = at
		columns = append(columns, r.column(name))
	}
	return columns
}

func (r *reader) name() string {
	name := string(r.take(r.count(api.MaxName, api.ErrName)))
	r.need(Name(name), api.ErrName)
	return name
}

func (r *reader) column(name string) api.Column {
	c := api.Column{Name: name, Type: r.typeAt(1)}
	c.Has = r.flag() == 1
	if c.Has {
		c.Default = r.value(c.Type)
	}
	return c
}

func (r *reader) typeAt(depth int) api.Type {
	r.need(depth <= api.MaxDepth, api.ErrDeep)
	t := api.Type{Kind: int(r.take(1)[0])}
	r.need(t.Kind >= api.Bool && t.Kind <= api.List, api.ErrKind)
	for range ofCount(t.Kind) {
		t.Of = append(t.Of, r.typeAt(depth+1))
	}
	return t
}

func (r *reader) value(t api.Type) api.Value {
	v := api.Value{Kind: t.Kind}
	switch t.Kind {
	case api.Bool:
		v.Int = int64(r.flag())
	case api.Int:
		v.Int = leb.Zag(r.number())
	case api.Float:
		v.Float = r.float()
	case api.Text:
		v.Text = r.text()
		r.need(value.Utf(v.Text), api.ErrUtf)
	case api.Bytes:
		v.Text = r.text()
	case api.Opt:
		v.Items = r.items(r.flag(), t.Of[0])
	case api.List:
		v.Items = r.items(r.count(api.MaxItems, api.ErrMany), t.Of[0])
	}
	return v
}

func (r *reader) items(count int, of api.Type) []api.Value {
	var items []api.Value // grows as they are read, since the count is only declared
	for range count {
		items = append(items, r.value(of))
	}
	return items
}

func (r *reader) text() string {
	return string(r.take(r.count(api.MaxText, api.ErrLong)))
}

func (r *reader) float() float64 {
	bits := uint64(0)
	for i, c := range r.take(floatBytes) {
		bits |= uint64(c) << (8 * i)
	}
	x := real.Of(bits)
	r.need(real.Bits(x) == bits, api.ErrForm)
	return x
}

// flag is a byte that says whether: 0 or 1.
func (r *reader) flag() int {
	flag := r.take(1)[0]
	r.need(flag <= 1, api.ErrForm)
	return int(flag)
}

// count is a number of at most that many; e, if it is above.
func (r *reader) count(most uint64, e api.Errno) int {
	n := r.number()
	r.need(n <= most, e)
	return int(n)
}

func (r *reader) number() uint64 {
	n, behind, e := leb.Get(r.left, 0)
	r.need(e == api.OK, e)
	r.left = r.left[behind:]
	return n
}

func (r *reader) take(n int) []byte {
	r.need(n <= len(r.left), api.ErrShort)
	taken := r.left[:n]
	r.left = r.left[n:]
	return taken
}
