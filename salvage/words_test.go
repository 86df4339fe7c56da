package salvage_test

import (
	"bytes"
	"encoding/binary"
	"hash/crc32"
	"math"
	"slices"
	"strconv"
	"strings"
	"testing"

	"gabion/api"
	"gabion/batch"
	"gabion/frame"
	"gabion/salvage"
	"gabion/schema"
	"gabion/stuff"
)

// The document's limits, told by hand.
const (
	maxFrame  = 2200
	maxNumber = 1 << 31
	theNaN    = 0x7ff8000000000000
)

func kind(k int, of ...api.Type) api.Type { return api.Type{Kind: k, Of: of} }

var (
	ofBool  = kind(api.Bool)
	ofInt   = kind(api.Int)
	ofFloat = kind(api.Float)
	ofText  = kind(api.Text)
	ofBytes = kind(api.Bytes)
)

func optOf(t api.Type) api.Type { return kind(api.Opt, t) }

func listOf(t api.Type) api.Type { return kind(api.List, t) }

func boolean(n int64) api.Value { return api.Value{Kind: api.Bool, Int: n} }

func number(n int64) api.Value { return api.Value{Kind: api.Int, Int: n} }

func float(x float64) api.Value { return api.Value{Kind: api.Float, Float: x} }

func bits(b uint64) api.Value { return float(math.Float64frombits(b)) }

func text(s string) api.Value { return api.Value{Kind: api.Text, Text: s} }

func rawBytes(s string) api.Value { return api.Value{Kind: api.Bytes, Text: s} }

func opt(items ...api.Value) api.Value { return api.Value{Kind: api.Opt, Items: items} }

func list(items ...api.Value) api.Value { return api.Value{Kind: api.List, Items: items} }

func plain(name string, t api.Type) api.Column { return api.Column{Name: name, Type: t} }

func with(name string, t api.Type, v api.Value) api.Column {
	return api.Column{Name: name, Type: t, Has: true, Default: v}
}

func of(columns ...api.Column) api.Schema { return api.Schema{Columns: columns} }

func values(l ...api.Value) api.Row { return api.Row{Values: l} }

// rows is rows of one value each.
func rows(l ...api.Value) []api.Row {
	var all []api.Row
	for _, v := range l {
		all = append(all, values(v))
	}
	return all
}

// numbers is rows of one number each.
func numbers(l ...int64) []api.Row {
	var all []api.Row
	for _, n := range l {
		all = append(all, values(number(n)))
	}
	return all
}

var (
	ints   = of(plain("a", ofInt))
	texts  = of(plain("a", ofText))
	two    = of(plain("a", ofInt), plain("b", ofText))
	floats = of(plain("f", ofFloat), with("l", listOf(optOf(ofFloat)), list(opt(bits(1<<63)), opt(), opt(bits(theNaN)))))
	nested = of(plain("a", listOf(optOf(listOf(ofBytes)))), with("b", optOf(ofText), opt(text("y"))), plain("c", ofBool))
)

// wide is a schema of n columns of unlike names.
func wide(n int) api.Schema {
	s := api.Schema{}
	for i := range n {
		s.Columns = append(s.Columns, plain("c"+strconv.Itoa(i), ofInt))
	}
	return s
}

// longSchema is a schema of n bytes, from 200 on.
func longSchema(n int) api.Schema {
	return of(with("a", ofBytes, rawBytes(strings.Repeat("x", n-7))))
}

func schemaFrame(number int64, s api.Schema) api.Frame {
	return api.Frame{Kind: api.SchemaFrame, Number: number, Schema: s}
}

func dataFrame(number, seq, first int64, rows int, block string) api.Frame {
	return api.Frame{Kind: api.DataFrame, Number: number, Seq: seq, First: first, Rows: rows, Block: []byte(block)}
}

func indexFrame(at, frames, rows int64, entries ...api.Entry) api.Frame {
	return api.Frame{Kind: api.IndexFrame, Index: api.Index{At: at, Frames: frames, Rows: rows, Entries: entries}}
}

func entry(at, row, schema int64) api.Entry { return api.Entry{At: at, Row: row, Schema: schema} }

func join(l ...[]byte) []byte { return bytes.Join(l, nil) }

func row(c byte, n int) []byte { return bytes.Repeat([]byte{c}, n) }

func fenced(run string) []byte { return []byte("\x00" + run + "\x00") }

// runOf is a run: a kind and its fields, with their right check, stuffed.
func runOf(fields string) string {
	return string(stuff.Stuff(binary.LittleEndian.AppendUint32([]byte(fields), crc32.ChecksumIEEE([]byte(fields)))))
}

// encoded is a frame's bytes.
func encoded(f api.Frame) []byte {
	b, e := frame.Encode(f)
	if e != api.OK {
		panic("a frame that may not be, of the kind " + strconv.Itoa(f.Kind))
	}
	return b
}

// packed is rows of a schema as a block.
func packed(s api.Schema, l []api.Row) string {
	b, e := batch.Pack(s, l)
	if e != api.OK {
		panic("rows that may not be a block: " + strconv.Itoa(int(e)))
	}
	return string(b)
}

// mixed is the n-th of a row of well mixed words, the same ones in every run.
func mixed(n uint64) uint64 {
	z := (n + 1) * 0x9e3779b97f4a7c15
	z = (z ^ z>>30) * 0xbf58476d1ce4e5b9
	z = (z ^ z>>27) * 0x94d049bb133111eb
	return z ^ z>>31
}

// mixedBytes are n mixed bytes, about one of `every` of them zero; none, if that is 0.
func mixedBytes(seed uint64, n int, every uint64) []byte {
	b := make([]byte, n)
	for i := range b {
		w := mixed(seed<<24 + uint64(i))
		b[i] = byte(w%255) + 1
		if every > 0 && w>>32%every == 0 {
			b[i] = 0
		}
	}
	return b
}

func showNumbers(b []byte, numbers ...int64) []byte {
	for _, n := range numbers {
		b = strconv.AppendInt(append(b, ' '), n, 10)
	}
	return b
}

func showValue(b []byte, v api.Value) []byte {
	b = showNumbers(append(b, '{'), int64(v.Kind), v.Int, int64(math.Float64bits(v.Float)))
	b = strconv.AppendQuoteToASCII(append(b, ' '), v.Text)
	for _, item := range v.Items {
		b = showValue(b, item)
	}
	return append(b, '}')
}

func showType(b []byte, t api.Type) []byte {
	b = showNumbers(append(b, '<'), int64(t.Kind))
	for _, inner := range t.Of {
		b = showType(b, inner)
	}
	return append(b, '>')
}

// schemaText is all that a schema holds, to the bit.
func schemaText(s api.Schema) string {
	var b []byte
	for _, c := range s.Columns {
		b = showType(strconv.AppendQuoteToASCII(append(b, " ["...), c.Name), c.Type)
		b = append(showValue(strconv.AppendBool(b, c.Has), c.Default), ']')
	}
	return string(b)
}

// rowText is all that a row holds, to the bit.
func rowText(r api.Row) string {
	var b []byte
	for _, v := range r.Values {
		b = showValue(b, v)
	}
	return string(b)
}

// batchText is all that batches hold, to the bit.
func batchText(l ...api.Batch) string {
	var b []byte
	for _, one := range l {
		b = showNumbers(append(b, '('), int64(one.At), one.Number, one.Seq, one.First)
		for _, r := range one.Rows {
			b = append(append(append(b, " ["...), rowText(r)...), ']')
		}
		b = append(b, ")\n"...)
	}
	return string(b)
}

// numberedText is all that numbered schemas hold, to the bit.
func numberedText(l ...api.Numbered) string {
	var b []byte
	for _, one := range l {
		b = append(append(showNumbers(append(b, '('), one.Number), schemaText(one.Schema)...), ")\n"...)
	}
	return string(b)
}

// brief is the beginning of a text, as whole ones would hide what is wrong with them.
func brief(s string) string { return s[:min(len(s), 400)] }

// shown is bytes' length and beginning, as whole lists would hide what is wrong with them.
func shown(b []byte) string {
	return strconv.Itoa(len(b)) + " bytes " + strconv.Quote(string(b[:min(len(b), 24)]))
}

// taken is a frame that stands at a place.
type taken struct {
	f  api.Frame
	at int
}

// laid is a file that is made frame by frame, and its frames.
type laid struct {
	all []taken
	b   []byte
}

// lay lays a frame's bytes behind the others, whether it follows them or not.
func (l *laid) lay(f api.Frame) {
	l.all = append(l.all, taken{f, len(l.b)})
	l.b = append(l.b, encoded(f)...)
}

func (l *laid) schema(n int64, s api.Schema) { l.lay(schemaFrame(n, s)) }

// data lays rows of the last schema, as the next data frame.
func (l *laid) data(rows []api.Row) {
	last, seq, first, _ := l.standing()
	l.lay(dataFrame(last.Number, seq, first, len(rows), packed(last.Schema, rows)))
}

// index lays the index of all frames.
func (l *laid) index() {
	_, frames, rows, entries := l.standing()
	l.lay(indexFrame(int64(len(l.b)), frames, rows, entries...))
}

// standing is what the frames so far come to, by the words of DOC.md ('The file'): the last schema frame, how many data frames and rows, the entries of their index.
func (l *laid) standing() (last api.Frame, frames, rows int64, entries []api.Entry) {
	at := 0
	for _, one := range l.all {
		switch one.f.Kind {
		case 1:
			last, at = one.f, one.at
		case 2:
			if frames%4 == 0 && len(entries) < 64 {
				entries = append(entries, entry(int64(one.at), rows, int64(at)))
			}
			frames++
			rows += int64(one.f.Rows)
		}
	}
	return last, frames, rows, entries
}

// behind is the place behind the k-th frame.
func (l *laid) behind(k int) int {
	if k+1 < len(l.all) {
		return l.all[k+1].at
	}
	return len(l.b)
}

// unchanged tells whether all bytes of the k-th frame, fences included, stand in other bytes as in the file.
func (l *laid) unchanged(k int, b []byte) bool {
	from, to := l.all[k].at, l.behind(k)
	return to <= len(b) && bytes.Equal(b[from:to], l.b[from:to])
}

// fixed is a schema with the one NaN, as its bytes have it; one that may not be stays.
func fixed(s api.Schema) api.Schema {
	b, e := schema.Encode(s)
	if e != api.OK {
		return s
	}
	s, _ = schema.Decode(b)
	return s
}

// alone tells whether a number stands in a list with one schema alone, and which that is.
func alone(l []api.Numbered, number int64) (api.Schema, bool) {
	var all []api.Schema
	for _, x := range l {
		if x.Number == number {
			all = append(all, fixed(x.Schema))
		}
	}
	for _, a := range all {
		for _, b := range all {
			if schemaText(a) != schemaText(b) {
				return api.Schema{}, false
			}
		}
	}
	if len(all) == 0 {
		return api.Schema{}, false
	}
	return all[0], true
}

// wordRuns are the runs of bytes by the words: between each two zero bytes that have only others between them, one at least.
func wordRuns(b []byte) []api.Run {
	var l []api.Run
	opening := bytes.IndexByte(b, 0)
	for opening >= 0 {
		size := bytes.IndexByte(b[opening+1:], 0)
		if size < 0 {
			break
		}
		if size > 0 {
			l = append(l, api.Run{At: opening, Bytes: b[opening+1 : opening+1+size]})
		}
		opening += 1 + size
	}
	return l
}

// wordFrames are the schemas that any runs tell, in the bytes' order.
func wordFrames(b []byte) []api.Numbered {
	var l []api.Numbered
	for _, run := range wordRuns(b) {
		if f, e := frame.Decode(run.Bytes); e == api.OK && f.Kind == 1 {
			l = append(l, api.Numbered{Number: f.Number, Schema: f.Schema})
		}
	}
	return l
}

// wordSchemas is P17.1 by the words.
func wordSchemas(b []byte) []api.Numbered {
	all := wordFrames(b)
	var numbers []int64
	for _, x := range all {
		numbers = append(numbers, x.Number)
	}
	slices.Sort(numbers)
	var told []api.Numbered
	for _, n := range slices.Compact(numbers) {
		if s, sure := alone(all, n); sure {
			told = append(told, api.Numbered{Number: n, Schema: s})
		}
	}
	return told
}

// wordBatch is P17.2 by the words: what a run tells by the schemas of a list.
func wordBatch(l []api.Numbered, run api.Run) (api.Batch, bool) {
	f, e := frame.Decode(run.Bytes)
	if e != api.OK || f.Kind != 2 {
		return api.Batch{}, false
	}
	s, sure := alone(l, f.Number)
	if !sure || f.Number < 0 || f.Number >= maxNumber || schema.Check(s) != api.OK {
		return api.Batch{}, false
	}
	told, e := batch.Unpack(s, f.Block, f.Rows)
	if e != api.OK {
		return api.Batch{}, false
	}
	return api.Batch{At: run.At, Number: f.Number, Seq: f.Seq, First: f.First, Rows: told}, true
}

// stream is bytes, and what each run of them tells by the schemas of a list, by the words.
type stream struct {
	schemas []api.Numbered
	all     []byte
	told    []api.Batch
	closed  []int // where the closing fence of each of these stands
}

func streamOf(schemas []api.Numbered, pieces ...[]byte) stream {
	w := stream{schemas: schemas, all: join(pieces...)}
	for _, run := range wordRuns(w.all) {
		if one, is := wordBatch(schemas, run); is {
			w.told = append(w.told, one)
			w.closed = append(w.closed, run.At+1+len(run.Bytes))
		}
	}
	return w
}

// between is what Feed of the bytes from one place up to another must tell.
func (w stream) between(from, to int) []api.Batch {
	var l []api.Batch
	for k, at := range w.closed {
		if from <= at && at < to {
			l = append(l, w.told[k])
		}
	}
	return l
}

// held is what Held must tell behind the bytes up to a place.
func (w stream) held(to int) int {
	last := bytes.LastIndexByte(w.all[:to], 0)
	if last < 0 || to-last-1 > maxFrame {
		return 0
	}
	return to - last - 1
}

func sameBatches(t *testing.T, what string, got, want []api.Batch) {
	t.Helper()
	if len(got) != len(want) || batchText(got...) != batchText(want...) {
		t.Fatalf("%s: %d batches: %s, want %d: %s", what, len(got), brief(batchText(got...)), len(want), brief(batchText(want...)))
	}
}

// pieces feeds a stream cut at places that go up, and asks behind each piece; two cuts at one place are a piece of no bytes.
func (w stream) pieces(t *testing.T, cuts ...int) {
	t.Helper()
	s := salvage.New(w.schemas)
	from := 0
	for _, to := range append(cuts, len(w.all)) {
		if held := s.Held(); held != w.held(from) {
			t.Fatalf("%s, up to %d: Held %d, want %d", shown(w.all), from, held, w.held(from))
		}
		got := s.Feed(w.all[from:to])
		if len(got) > 0 || len(w.between(from, to)) > 0 {
			sameBatches(t, shown(w.all)+", from "+strconv.Itoa(from)+" to "+strconv.Itoa(to), got, w.between(from, to))
		}
		from = to
	}
	if held := s.Held(); held != w.held(from) || s.Held() != held || held > maxFrame {
		t.Fatalf("%s: Held %d, want %d", shown(w.all), held, w.held(from))
	}
}

// singly are the cuts of pieces of so many bytes each.
func singly(all []byte, size int) []int {
	var cuts []int
	for at := size; at < len(all); at += size {
		cuts = append(cuts, at)
	}
	return cuts
}

// asSchemas holds Schemas against the words.
func asSchemas(t *testing.T, b []byte) []api.Numbered {
	t.Helper()
	got, want := salvage.Schemas(b), wordSchemas(b)
	if len(got) != len(want) || numberedText(got...) != numberedText(want...) {
		t.Fatalf("Schemas of %s: %s, want %s", shown(b), brief(numberedText(got...)), brief(numberedText(want...)))
	}
	return got
}

// asAll holds All against the words.
func asAll(t *testing.T, b []byte) []api.Batch {
	t.Helper()
	got := salvage.All(b)
	sameBatches(t, "All of "+shown(b), got, streamOf(wordSchemas(b), b).told)
	return got
}

// asFeed holds Feed of a stream against the words, as one piece and as some.
func asFeed(t *testing.T, schemas []api.Numbered, pieces ...[]byte) []api.Batch {
	t.Helper()
	w := streamOf(schemas, pieces...)
	w.pieces(t)
	w.pieces(t, singly(w.all, 1)...)
	w.pieces(t, singly(w.all, 50)...)
	return w.told
}

// must is asFeed with what is to be told told by hand.
func must(t *testing.T, schemas []api.Numbered, b []byte, want ...api.Batch) {
	t.Helper()
	sameBatches(t, "by hand, of "+shown(b), asFeed(t, schemas, b), want)
}

// saved is a batch by hand.
func saved(at int, number, seq, first int64, rows []api.Row) api.Batch {
	return api.Batch{At: at, Number: number, Seq: seq, First: first, Rows: rows}
}

// named is a numbered schema.
func named(n int64, s api.Schema) api.Numbered { return api.Numbered{Number: n, Schema: s} }

// dataOf is a data frame of rows of a schema.
func dataOf(number, seq, first int64, s api.Schema, rows []api.Row) api.Frame {
	return dataFrame(number, seq, first, len(rows), packed(s, rows))
}
