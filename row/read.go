package row

import (
	"gabion/api"
	"gabion/leb"
	"gabion/real"
	"gabion/value"
)

// A reader reads what may be broken. At the first thing that is wrong it gives up by a panic with the error.
type reader struct {
	ways []func(r *reader, t api.Type) api.Value
	b    []byte
	at   int
}

func readFrom(b []byte, at int) *reader {
	r := &reader{ways: waysToRead(), b: b, at: at}
	r.need(at >= 0 && at <= len(b), api.ErrShort)
	return r
}

// waysToRead is how a value of a type of each kind is read.
func waysToRead() []func(r *reader, t api.Type) api.Value {
	return []func(r *reader, t api.Type) api.Value{
		api.Bool:  readBool,
		api.Int:   readInt,
		api.Float: readFloat,
		api.Text:  readText,
		api.Bytes: readBytes,
		api.Opt:   readOpt,
		api.List:  readList,
	}
}

func (r *reader) value(t api.Type) api.Value {
	return r.ways[t.Kind](r, t)
}

func readBool(r *reader, t api.Type) api.Value {
	return api.Value{Kind: t.Kind, Int: int64(r.flag())}
}

func readInt(r *reader, t api.Type) api.Value {
	return api.Value{Kind: t.Kind, Int: leb.Zag(r.number())}
}

func readFloat(r *reader, t api.Type) api.Value {
	bits := uint64(0)
	for i, c := range r.take(floatBytes) {
		bits |= uint64(c) << (8 * i)
	}
	x := real.Of(bits)
	r.need(real.Bits(x) == bits, api.ErrForm)
	return api.Value{Kind: t.Kind, Float: x}
}

func readText(r *reader, t api.Type) api.Value {
	v := readBytes(r, t)
	r.need(value.Utf(v.Text), api.ErrUtf)
	return v
}

func readBytes(r *reader, t api.Type) api.Value {
	size := r.count(api.MaxText, api.ErrLong)
	return api.Value{Kind: t.Kind, Text: string(r.take(size))}
}

func readOpt(r *reader, t api.Type) api.Value {
	return api.Value{Kind: t.Kind, Items: r.items(r.flag(), t.Of[0])}
}

func readList(r *reader, t api.Type) api.Value {
	count := r.count(api.MaxItems, api.ErrMany)
	return api.Value{Kind: t.Kind, Items: r.items(count, t.Of[0])}
}

func (r *reader) items(count int, of api.Type) []api.Value {
	var items []api.Value // grows as they are read, since the count is only declared
	for range count {
		items = append(items, r.value(of))
	}
	return items
}

func (r *reader) need(holds bool, e api.Errno) {
	if !holds {
		panic(e)
	}
}

// flag is a byte that says whether: 0 or 1.
func (r *reader) flag() int {
	flag := r.take(1)[0]
	r.need(flag <= 1, api.ErrForm)
	return int(flag)
}

// count is a number of at most that many; e, if it is above.
func (r *reader) count(most uint64, e api.Errno) int {
	n := r.number()
	r.need(n <= most, e)
	return int(n)
}

func (r *reader) number() uint64 {
	n, behind, e := leb.Get(r.b, r.at)
	r.need(e == api.OK, e)
	r.at = behind
	return n
}

func (r *reader) take(n int) []byte {
	r.need(n <= len(r.b)-r.at, api.ErrShort)
	taken := r.b[r.at : r.at+n]
	r.at += n
	return taken
}
