package writer_test

import (
	"bytes"
	"encoding/binary"
	"hash/crc32"
	"iter"
	"math"
	"slices"
	"strconv"
	"strings"

	"gabion/api"
	"gabion/dev"
	"gabion/frame"
	"gabion/stuff"
)

const (
	theNaN = 0x7ff8000000000000
	plenty = 100000 // a quota beyond what most tests write
)

func kind(k int, of ...api.Type) api.Type { return api.Type{Kind: k, Of: of} }

var (
	ofBool  = kind(api.Bool)
	ofInt   = kind(api.Int)
	ofFloat = kind(api.Float)
	ofText  = kind(api.Text)
	ofBytes = kind(api.Bytes)
)

func optOf(t api.Type) api.Type { return kind(api.Opt, t) }

func listOf(t api.Type) api.Type { return kind(api.List, t) }

func boolean(n int64) api.Value { return api.Value{Kind: api.Bool, Int: n} }

func number(n int64) api.Value { return api.Value{Kind: api.Int, Int: n} }

func bits(b uint64) api.Value {
	return api.Value{Kind: api.Float, Float: math.Float64frombits(b)}
}

func text(s string) api.Value { return api.Value{Kind: api.Text, Text: s} }

func rawBytes(s string) api.Value { return api.Value{Kind: api.Bytes, Text: s} }

func opt(items ...api.Value) api.Value { return api.Value{Kind: api.Opt, Items: items} }

func list(items ...api.Value) api.Value { return api.Value{Kind: api.List, Items: items} }

func plain(name string, t api.Type) api.Column { return api.Column{Name: name, Type: t} }

func with(name string, t api.Type, v api.Value) api.Column {
	return api.Column{Name: name, Type: t, Has: true, Default: v}
}

func of(columns ...api.Column) api.Schema { return api.Schema{Columns: columns} }

func values(l ...api.Value) api.Row { return api.Row{Values: l} }

// rows is rows of one value each.
func rows(l ...api.Value) []api.Row {
	var all []api.Row
	for _, v := range l {
		all = append(all, values(v))
	}
	return all
}

// numbers is rows of one number each.
func numbers(l ...int64) []api.Row {
	var all []api.Row
	for _, n := range l {
		all = append(all, values(number(n)))
	}
	return all
}

var (
	ints   = of(plain("a", ofInt))
	texts  = of(plain("a", ofText))
	blobs  = of(plain("a", ofBytes))
	two    = of(plain("a", ofInt), plain("b", ofText))
	floats = of(plain("f", ofFloat), with("l", listOf(optOf(ofFloat)), list(opt(bits(1<<63)), opt(), opt(bits(theNaN)))))
	nested = of(plain("a", listOf(optOf(listOf(ofBytes)))), with("b", optOf(ofText), opt(text("y"))), plain("c", ofBool))
)

// wide is a schema of n columns of unlike names.
func wide(n int) api.Schema {
	s := api.Schema{}
	for i := range n {
		s.Columns = append(s.Columns, plain("c"+strconv.Itoa(i), ofInt))
	}
	return s
}

// longSchema is a schema of n bytes, from 200 on, that are packed into no fewer.
func longSchema(n int) api.Schema {
	return of(with("a", ofBytes, rawBytes(string(mixedBytes(3, n-7, 9)))))
}

func schemaFrame(number int64, s api.Schema) api.Frame {
	return api.Frame{Kind: api.SchemaFrame, Number: number, Schema: s}
}

func dataFrame(number, seq, first int64, rows int, block string) api.Frame {
	return api.Frame{Kind: api.DataFrame, Number: number, Seq: seq, First: first, Rows: rows, Block: []byte(block)}
}

func indexFrame(at, frames, rows int64, entries ...api.Entry) api.Frame {
	return api.Frame{Kind: api.IndexFrame, Index: api.Index{At: at, Frames: frames, Rows: rows, Entries: entries}}
}

func entry(at, row, schema int64) api.Entry { return api.Entry{At: at, Row: row, Schema: schema} }

func join(l ...[]byte) []byte { return bytes.Join(l, nil) }

func row(c byte, n int) []byte { return bytes.Repeat([]byte{c}, n) }

// fencedOf is a frame's bytes, told by its kind and its fields: with their right check, stuffed, and fenced.
func fencedOf(fields string) []byte {
	run := stuff.Stuff(binary.LittleEndian.AppendUint32([]byte(fields), crc32.ChecksumIEEE([]byte(fields))))
	return join([]byte{0}, run, []byte{0})
}

// encoded is a frame's bytes.
func encoded(f api.Frame) []byte {
	b, e := frame.Encode(f)
	if e != api.OK {
		panic("a frame that may not be, of the kind " + strconv.Itoa(f.Kind))
	}
	return b
}

// mixed is the n-th of a row of well mixed words, the same ones in every run.
func mixed(n uint64) uint64 {
	z := (n + 1) * 0x9e3779b97f4a7c15
	z = (z ^ z>>30) * 0xbf58476d1ce4e5b9
	z = (z ^ z>>27) * 0x94d049bb133111eb
	return z ^ z>>31
}

// mixedBytes are n mixed bytes, about one of `every` of them zero; none, if that is 0.
func mixedBytes(seed uint64, n int, every uint64) []byte {
	b := make([]byte, n)
	for i := range b {
		w := mixed(seed<<24 + uint64(i))
		b[i] = byte(w%255) + 1
		if every > 0 && w>>32%every == 0 {
			b[i] = 0
		}
	}
	return b
}

func showNumbers(b []byte, numbers ...int64) []byte {
	for _, n := range numbers {
		b = strconv.AppendInt(append(b, ' '), n, 10)
	}
	return b
}

// showValue is all that a value holds, to the bit; of NaNs only that they are.
func showValue(b []byte, v api.Value) []byte {
	x := math.Float64bits(v.Float)
	if v.Float != v.Float {
		x = theNaN
	}
	b = showNumbers(append(b, '{'), int64(v.Kind), v.Int, int64(x))
	b = strconv.AppendQuoteToASCII(append(b, ' '), v.Text)
	for _, item := range v.Items {
		b = showValue(b, item)
	}
	return append(b, '}')
}

func showType(b []byte, t api.Type) []byte {
	b = showNumbers(append(b, '<'), int64(t.Kind))
	for _, inner := range t.Of {
		b = showType(b, inner)
	}
	return append(b, '>')
}

// schemaText is the same text of schemas that are the same, and of no others.
func schemaText(s api.Schema) string {
	var b []byte
	for _, c := range s.Columns {
		b = showType(strconv.AppendQuoteToASCII(append(b, " ["...), c.Name), c.Type)
		b = append(showValue(strconv.AppendBool(b, c.Has), c.Default), ']')
	}
	return string(b)
}

// rowsText is the same text of rows that are the same, and of no others.
func rowsText(l []api.Row) string {
	var b []byte
	for _, r := range l {
		b = append(b, '(')
		for _, v := range r.Values {
			b = showValue(b, v)
		}
		b = append(b, ')')
	}
	return string(b)
}

// brief is the beginning of a text, as whole ones would hide what is wrong with them.
func brief(s string) string { return s[:min(len(s), 400)] }

// taken is a frame that stands at a place.
type taken struct {
	f  api.Frame
	at int64
}

// words are frames one behind the other, by the words of DOC.md ('The file') and of chapter 14; whatever is asked is told anew from these.
type words struct{ all []taken }

// of goes through the frames of a kind.
func (w words) of(kind int) iter.Seq[*taken] {
	return func(yield func(one *taken) bool) {
		for i := range w.all {
			if w.all[i].f.Kind == kind && !yield(&w.all[i]) {
				return
			}
		}
	}
}

func (w words) frames() (n int64) {
	for range w.of(2) {
		n++
	}
	return n
}

func (w words) rows() (n int64) {
	for one := range w.of(2) {
		n += int64(one.f.Rows)
	}
	return n
}

// last is the last schema's number and text; -1, if there is none.
func (w words) last() (int64, string) {
	number, told := int64(-1), ""
	for one := range w.of(1) {
		if one.f.Number >= number {
			number, told = one.f.Number, schemaText(one.f.Schema)
		}
	}
	return number, told
}

func (w words) since() (n int) {
	for _, one := range slices.Backward(w.all) {
		switch one.f.Kind {
		case 1:
			return n
		case 2:
			n++
		}
	}
	return 0
}

func (w words) closed() bool { return len(w.all) > 0 && w.all[len(w.all)-1].f.Kind == 3 }

func (w words) entries() []api.Entry {
	var l []api.Entry
	at := int64(0)
	for i := range w.all {
		one := &w.all[i]
		switch {
		case one.f.Kind == 1:
			at = one.at
		case one.f.Kind == 2 && one.f.Seq%4 == 0 && len(l) < 64:
			l = append(l, entry(one.at, one.f.First, at))
		}
	}
	return l
}

func (w words) follows(f api.Frame, at int64) bool {
	greatest, s := w.last()
	switch f.Kind {
	case 1:
		return f.Number == greatest+1 || f.Number == greatest && schemaText(f.Schema) == s
	case 2:
		return greatest >= 0 && f.Number == greatest && f.Seq == w.frames() && f.First == w.rows()
	}
	return f.Index.At == at && f.Index.Frames == w.frames() && f.Index.Rows == w.rows() && slices.Equal(f.Index.Entries, w.entries())
}

func (w words) ownIndex(at int64) api.Frame {
	return indexFrame(at, w.frames(), w.rows(), w.entries()...)
}

// kinds are those of the frames, a letter each.
func (w words) kinds() string {
	var s strings.Builder
	for _, one := range w.all {
		s.WriteByte("?SDX"[one.f.Kind])
	}
	return s.String()
}

// place is where the k-th frame stands.
func (w words) place(k int) int { return int(w.all[k].at) }

// readWords are the frames of a file, and whether it is whole.
func readWords(b []byte) (words, bool) {
	w, at := words{}, 0
	for at < len(b) {
		size := bytes.IndexByte(b[at+1:], 0)
		if b[at] != 0 || size < 0 {
			return w, false
		}
		f, e := frame.Decode(b[at+1 : at+1+size])
		if e != api.OK || !w.follows(f, int64(at)) {
			return w, false
		}
		w.all = append(w.all, taken{f, int64(at)})
		at += size + 2
	}
	return w, true
}

// laid is a file that is made frame by frame, and its frames.
type laid struct {
	words
	b []byte
}

func (l *laid) lay(f api.Frame) {
	l.all = append(l.all, taken{f, int64(len(l.b))})
	l.b = append(l.b, encoded(f)...)
}

func (l *laid) schema(n int64, s api.Schema) { l.lay(schemaFrame(n, s)) }

// data lays n rows that are one byte each, of a schema of one column of numbers.
func (l *laid) data(n int) {
	number, _ := l.last()
	l.lay(dataFrame(number, l.frames(), l.rows(), n, "\x00"+strings.Repeat("\x02", n)))
}

func (l *laid) index() { l.lay(l.ownIndex(int64(len(l.b)))) }

// plainFile is a file of one schema frame and n data frames of a row each.
func plainFile(n int) *laid {
	l := &laid{}
	l.schema(0, ints)
	for range n {
		l.data(1)
	}
	return l
}

// device is a file of these bytes, all of them synced.
func device(b []byte) *dev.Dev { return deviceOf(api.MaxQuota, b) }

func deviceOf(quota int, b []byte) *dev.Dev {
	d, e := dev.New(quota)
	if e != api.OK || d.Tail(b) != api.OK {
		panic("a file that may not be")
	}
	return d
}

// state is all that a file tells but how much was read.
func state(d *dev.Dev) string {
	return string(showNumbers(d.All(), int64(d.Len()), int64(d.Quota()), int64(d.Synced()), int64(d.Written()))) + map[bool]string{true: "up"}[d.Up()]
}

// takeDown lets the file's power fail; its bytes stay.
func takeDown(d *dev.Dev) {
	d.Sync()
	d.Fail(0, 0)
	if d.Cut(0) != api.ErrPower || d.Up() {
		panic("a file that is up")
	}
}

// showBits is a float to the bit.
func showBits(b []byte, x float64) []byte {
	return strconv.AppendUint(append(b, '#'), math.Float64bits(x), 16)
}
