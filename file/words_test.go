package file_test

import (
	"bytes"
	"encoding/binary"
	"hash/crc32"
	"math"
	"slices"
	"strconv"
	"strings"
	"testing"

	"gabion/api"
	"gabion/file"
	"gabion/frame"
	"gabion/stuff"
)

// The document's limits, told by hand.
const (
	maxFrame  = 2200
	maxQuota  = 1048576
	mostShort = (4 + 8 + 3) * 2202
	theNaN    = 0x7ff8000000000000
	plenty    = 100000 // a quota beyond what most tests write
)

func kind(k int, of ...api.Type) api.Type { return api.Type{Kind: k, Of: of} }

var (
	ofBool  = kind(api.Bool)
	ofInt   = kind(api.Int)
	ofFloat = kind(api.Float)
	ofText  = kind(api.Text)
	ofBytes = kind(api.Bytes)
)

func optOf(t api.Type) api.Type { return kind(api.Opt, t) }

func listOf(t api.Type) api.Type { return kind(api.List, t) }

func boolean(n int64) api.Value { return api.Value{Kind: api.Bool, Int: n} }

func number(n int64) api.Value { return api.Value{Kind: api.Int, Int: n} }

func float(x float64) api.Value { return api.Value{Kind: api.Float, Float: x} }

func bits(b uint64) api.Value { return float(math.Float64frombits(b)) }

func text(s string) api.Value { return api.Value{Kind: api.Text, Text: s} }

func rawBytes(s string) api.Value { return api.Value{Kind: api.Bytes, Text: s} }

func opt(items ...api.Value) api.Value { return api.Value{Kind: api.Opt, Items: items} }

func list(items ...api.Value) api.Value { return api.Value{Kind: api.List, Items: items} }

func plain(name string, t api.Type) api.Column { return api.Column{Name: name, Type: t} }

func with(name string, t api.Type, v api.Value) api.Column {
	return api.Column{Name: name, Type: t, Has: true, Default: v}
}

func of(columns ...api.Column) api.Schema { return api.Schema{Columns: columns} }

func values(l ...api.Value) api.Row { return api.Row{Values: l} }

// rows is rows of one value each.
func rows(l ...api.Value) []api.Row {
	var all []api.Row
	for _, v := range l {
		all = append(all, values(v))
	}
	return all
}

// numbers is rows of one number each.
func numbers(l ...int64) []api.Row {
	var all []api.Row
	for _, n := range l {
		all = append(all, values(number(n)))
	}
	return all
}

var (
	ints   = of(plain("a", ofInt))
	texts  = of(plain("a", ofText))
	blobs  = of(plain("a", ofBytes))
	two    = of(plain("a", ofInt), with("b", ofText, text("x")))
	floats = of(plain("f", ofFloat), with("l", listOf(optOf(ofFloat)), list(opt(bits(1<<63)), opt(), opt(bits(theNaN)))))
	nested = of(plain("a", listOf(optOf(listOf(ofBytes)))), with("b", optOf(ofText), opt(text("y"))), plain("c", ofBool))
)

// wide is a schema of n columns of unlike names.
func wide(n int) api.Schema {
	s := api.Schema{}
	for i := range n {
		s.Columns = append(s.Columns, plain("c"+strconv.Itoa(i), ofInt))
	}
	return s
}

// longSchema is a schema of n bytes, from 200 on, that are packed into no fewer.
func longSchema(n int) api.Schema {
	return of(with("a", ofBytes, rawBytes(string(mixedBytes(3, n-7, 9)))))
}

func schemaFrame(number int64, s api.Schema) api.Frame {
	return api.Frame{Kind: api.SchemaFrame, Number: number, Schema: s}
}

func dataFrame(number, seq, first int64, rows int, block string) api.Frame {
	return api.Frame{Kind: api.DataFrame, Number: number, Seq: seq, First: first, Rows: rows, Block: []byte(block)}
}

func indexFrame(at, frames, rows int64, entries ...api.Entry) api.Frame {
	return api.Frame{Kind: api.IndexFrame, Index: api.Index{At: at, Frames: frames, Rows: rows, Entries: entries}}
}

func entry(at, row, schema int64) api.Entry { return api.Entry{At: at, Row: row, Schema: schema} }

func join(l ...[]byte) []byte { return bytes.Join(l, nil) }

func row(c byte, n int) []byte { return bytes.Repeat([]byte{c}, n) }

func fenced(run string) []byte { return []byte("\x00" + run + "\x00") }

// runOf is a run: a kind and its fields, with their right check, stuffed.
func runOf(fields string) string {
	return string(stuff.Stuff(binary.LittleEndian.AppendUint32([]byte(fields), crc32.ChecksumIEEE([]byte(fields)))))
}

// encoded is a frame's bytes.
func encoded(f api.Frame) []byte {
	b, e := frame.Encode(f)
	if e != api.OK {
		panic("a frame that may not be, of the kind " + strconv.Itoa(f.Kind))
	}
	return b
}

// mixed is the n-th of a row of well mixed words, the same ones in every run.
func mixed(n uint64) uint64 {
	z := (n + 1) * 0x9e3779b97f4a7c15
	z = (z ^ z>>30) * 0xbf58476d1ce4e5b9
	z = (z ^ z>>27) * 0x94d049bb133111eb
	return z ^ z>>31
}

// mixedBytes are n mixed bytes, about one of `every` of them zero; none, if that is 0.
func mixedBytes(seed uint64, n int, every uint64) []byte {
	b := make([]byte, n)
	for i := range b {
		w := mixed(seed<<24 + uint64(i))
		b[i] = byte(w%255) + 1
		if every > 0 && w>>32%every == 0 {
			b[i] = 0
		}
	}
	return b
}

func showNumbers(b []byte, numbers ...int64) []byte {
	for _, n := range numbers {
		b = strconv.AppendInt(append(b, ' '), n, 10)
	}
	return b
}

// showValue is all that a value holds, to the bit.
func showValue(b []byte, v api.Value) []byte {
	b = showNumbers(append(b, '{'), int64(v.Kind), v.Int, int64(math.Float64bits(v.Float)))
	b = strconv.AppendQuoteToASCII(append(b, ' '), v.Text)
	for _, item := range v.Items {
		b = showValue(b, item)
	}
	return append(b, '}')
}

func showType(b []byte, t api.Type) []byte {
	b = showNumbers(append(b, '<'), int64(t.Kind))
	for _, inner := range t.Of {
		b = showType(b, inner)
	}
	return append(b, '>')
}

// schemaText is all that a schema holds, to the bit.
func schemaText(s api.Schema) string {
	var b []byte
	for _, c := range s.Columns {
		b = showType(strconv.AppendQuoteToASCII(append(b, " ["...), c.Name), c.Type)
		b = append(showValue(strconv.AppendBool(b, c.Has), c.Default), ']')
	}
	return string(b)
}

func showRow(b []byte, r api.Row) []byte {
	b = append(b, '(')
	for _, v := range r.Values {
		b = showValue(b, v)
	}
	return append(b, ')')
}

// rowsText is all that rows hold, to the bit.
func rowsText(l []api.Row) string {
	var b []byte
	for _, r := range l {
		b = showRow(b, r)
	}
	return string(b)
}

// toldText is all that rows hold which were told, to the bit.
func toldText(l ...api.Told) string {
	var b []byte
	for _, one := range l {
		b = showRow(showNumbers(append(b, '\n'), one.At, one.Number, int64(one.E)), one.Row)
	}
	return string(b)
}

// batchText is all that batches hold, to the bit.
func batchText(l ...api.Batch) string {
	var b []byte
	for _, one := range l {
		b = showNumbers(append(b, '\n'), int64(one.At), one.Number, one.Seq, one.First)
		b = append(b, rowsText(one.Rows)...)
	}
	return string(b)
}

// brief is the beginning of a text, as whole ones would hide what is wrong with them.
func brief(s string) string { return s[:min(len(s), 400)] }

// fixedValue is a value each of whose NaNs is the one that is told.
func fixedValue(v api.Value) api.Value {
	if v.Float != v.Float {
		v.Float = math.Float64frombits(theNaN)
	}
	var items []api.Value
	for _, item := range v.Items {
		items = append(items, fixedValue(item))
	}
	v.Items = items
	return v
}

func fixedRow(r api.Row) api.Row {
	var all []api.Value
	for _, v := range r.Values {
		all = append(all, fixedValue(v))
	}
	return api.Row{Values: all}
}

func fixedSchema(s api.Schema) api.Schema {
	var all []api.Column
	for _, c := range s.Columns {
		c.Default = fixedValue(c.Default)
		all = append(all, c)
	}
	return api.Schema{Columns: all}
}

// placed is a frame, and where it stands: from its opening fence up to behind its closing one.
type placed struct {
	f        api.Frame
	from, to int
}

// framesOf are the frames of bytes that are frames one behind the other.
func framesOf(b []byte) []placed {
	var all []placed
	for at := 0; at < len(b); {
		size := bytes.IndexByte(b[at+1:], 0)
		f, e := frame.Decode(b[at+1 : at+1+size])
		if b[at] != 0 || e != api.OK {
			panic("bytes that are not frames one behind the other")
		}
		all = append(all, placed{f, at, at + size + 2})
		at += size + 2
	}
	return all
}

// kindsOf are the kinds of such frames, a letter each.
func kindsOf(b []byte) string {
	var s strings.Builder
	for _, one := range framesOf(b) {
		s.WriteByte("?SDX"[one.f.Kind])
	}
	return s.String()
}

// lastOf is the last such frame.
func lastOf(b []byte) placed {
	all := framesOf(b)
	return all[len(all)-1]
}

// newFile is an empty file.
func newFile(quota int) *file.File {
	f, e := file.New(quota)
	if e != api.OK {
		panic("a quota that is refused")
	}
	return f
}

// fileOf is a file of these bytes, that is not open.
func fileOf(b []byte) *file.File {
	f := newFile(maxQuota)
	if f.Tail(b) != api.OK {
		panic("bytes that are too many")
	}
	return f
}

// step is an append under a schema.
type step struct {
	s api.Schema
	l []api.Row
}

// written is a file with these appends; it is open.
func written(t *testing.T, steps ...step) *file.File {
	t.Helper()
	f := newFile(maxQuota)
	must(t, "Open", f.Open(steps[0].s), api.OK)
	for _, one := range steps {
		must(t, "Change", f.Change(one.s), api.OK)
		must(t, "Append", f.Append(one.l), api.OK)
	}
	return f
}

// closed closes a file, which writes an index.
func closed(t *testing.T, f *file.File) *file.File {
	t.Helper()
	mustClose(t, f, true)
	return f
}

// script are appends under some schemas, in which a schema frame is due for each cause, and for none.
func script() []step {
	var l []step
	for i := range int64(10) {
		l = append(l, step{ints, numbers(i, -i, i*i)})
	}
	l = append(l, blocks()...)
	for range 9 {
		l = append(l, step{two, []api.Row{values(number(7), text("seven"))}})
	}
	return append(l, step{ints, numbers(8)}, step{two, []api.Row{values(number(9), text(""))}})
}

// shortScript are a few short ones, under three schemas.
func shortScript() []step {
	return []step{
		{ints, numbers(1, 2)}, {ints, numbers(3)}, {two, []api.Row{values(number(4), text("four")), values(number(5), text(""))}}, {two, []api.Row{values(number(6), text("\x00"))}},
		{floats, []api.Row{values(bits(1<<63), list()), values(bits(0xfff8000000000001), list(opt(), opt(float(0.5))))}}, {ints, numbers(7, 8, 9)},
	}
}

// blocks are blocks that may be: of each kind of value, of one row and of 64, short ones and such as are as long as they may be and are packed into no fewer bytes.
func blocks() []step {
	return []step{
		{ints, numbers(1)}, {ints, numbers(0, -1, math.MaxInt64, math.MinInt64, 64)}, {ints, numbers(make([]int64, 64)...)},
		{texts, rows(text(""))}, {texts, rows(text("é\x00"), text(strings.Repeat("xy", 511)))}, {texts, rows(text(strings.Repeat("x", 1022)), text(strings.Repeat("y", 1022)))},
		{blobs, rows(rawBytes(string(mixedBytes(1, 1022, 3))), rawBytes(string(mixedBytes(2, 1022, 0))))},
		{two, []api.Row{values(number(5), text("five")), values(number(-5), text(""))}},
		{floats, []api.Row{values(bits(1<<63), list()), values(bits(0xfff8000000000001), list(opt(bits(0x7ff0000000000001)), opt())), values(bits(0), list(opt(bits(0x7ff0000000000000))))}},
		{nested, []api.Row{values(list(opt(list(rawBytes("\x00\xff"), rawBytes(""))), opt()), opt(), boolean(1)), values(list(), opt(text("t")), boolean(0))}},
		{wide(16), []api.Row{values(slices.Repeat([]api.Value{number(-1 << 40)}, 16)...)}},
		{longSchema(1024), rows(rawBytes("x"))},
	}
}

// refusedSchema is a schema that may not be, and why.
type refusedSchema struct {
	s    api.Schema
	want api.Errno
}

// refusedSchemas are some for each error of schema.Check.
func refusedSchemas() []refusedSchema {
	deep := listOf(listOf(listOf(listOf(ofInt))))
	return []refusedSchema{
		{api.Schema{}, api.ErrEmpty}, {wide(17), api.ErrMany}, {of(plain("A", ofInt)), api.ErrName}, {of(plain("", ofInt)), api.ErrName}, {of(plain(strings.Repeat("a", 17), ofInt)), api.ErrName},
		{of(plain("a", ofInt), plain("a", ofText)), api.ErrTwice}, {of(plain("a", kind(8))), api.ErrKind}, {of(plain("a", kind(api.List))), api.ErrKind}, {of(plain("a", deep)), api.ErrDeep},
		{of(with("a", ofText, number(5))), api.ErrType}, {of(api.Column{Name: "a", Type: ofInt, Default: number(0)}), api.ErrType}, {of(with("a", ofText, text("\xff"))), api.ErrUtf}, {longSchema(1025), api.ErrLong},
	}
}

// refusedRows are rows that are no block of a schema, and why.
type refusedRows struct {
	s    api.Schema
	l    []api.Row
	want api.Errno
}

// allRefusedRows are some for each error of batch.Pack but those of schema.Check.
func allRefusedRows() []refusedRows {
	long := strings.Repeat("x", 1022)
	return []refusedRows{
		{ints, nil, api.ErrEmpty}, {ints, []api.Row{}, api.ErrEmpty}, {ints, numbers(make([]int64, 65)...), api.ErrMany}, {ints, slices.Repeat([]api.Row{{}}, 65), api.ErrMany},
		{ints, []api.Row{{}}, api.ErrType}, {ints, []api.Row{values(number(1), number(2))}, api.ErrType}, {ints, rows(text("x")), api.ErrType}, {ints, rows(number(1), bits(0)), api.ErrType},
		{ints, rows(api.Value{Kind: api.Int, Text: "x"}), api.ErrKind}, {ints, rows(api.Value{}), api.ErrKind}, {two, []api.Row{values(number(1), text("\xff"))}, api.ErrUtf}, {texts, rows(text(strings.Repeat("x", 1025))), api.ErrLong},
		{texts, rows(text(long + "x")), api.ErrLong}, {texts, rows(text(long), text(long), text("")), api.ErrLong},
		{of(plain("a", listOf(ofBool))), rows(list(slices.Repeat([]api.Value{boolean(1)}, 257)...)), api.ErrMany},
		{of(plain("a", listOf(listOf(listOf(ofInt))))), rows(list(list(list(list(number(1)))))), api.ErrDeep},
	}
}

func must(t *testing.T, call string, e, want api.Errno) {
	t.Helper()
	if e != want {
		t.Fatalf("%s: %d, want %d", call, e, want)
	}
}

func mustClose(t *testing.T, f *file.File, wrote bool) {
	t.Helper()
	if is, e := f.Close(); is != wrote || e != api.OK || f.Opened() {
		t.Fatalf("Close: an index: %v, %d, and it is open: %v; want %v", is, e, f.Opened(), wrote)
	}
}

// mustTell asks that a call told just these rows, and that.
func mustTell(t *testing.T, call string, got []api.Told, e api.Errno, want []api.Told, why api.Errno) {
	t.Helper()
	if e != why || toldText(got...) != toldText(want...) {
		t.Fatalf("%s: %d rows, %d, want %d, %d: %s, want %s", call, len(got), e, len(want), why, brief(toldText(got...)), brief(toldText(want...)))
	}
}

// told are rows of one schema's number, one behind the other from a number on.
func told(at, number int64, l ...api.Row) []api.Told {
	var all []api.Told
	for i, r := range l {
		all = append(all, api.Told{Row: r, At: at + int64(i), Number: number})
	}
	return all
}
