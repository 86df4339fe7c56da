package repair_test

import (
	"bytes"
	"encoding/binary"
	"hash/crc32"
	"iter"
	"math"
	"slices"
	"strconv"
	"strings"
	"testing"

	"gabion/api"
	"gabion/dev"
	"gabion/frame"
	"gabion/scan"
	"gabion/stuff"
)

// The document's limits, told by hand.
const (
	maxFrame = 2200
	theNaN   = 0x7ff8000000000000
)

func kind(k int, of ...api.Type) api.Type { return api.Type{Kind: k, Of: of} }

var (
	ofInt   = kind(api.Int)
	ofFloat = kind(api.Float)
	ofText  = kind(api.Text)
	ofBytes = kind(api.Bytes)
)

func optOf(t api.Type) api.Type { return kind(api.Opt, t) }

func listOf(t api.Type) api.Type { return kind(api.List, t) }

func float(bits uint64) api.Value {
	return api.Value{Kind: api.Float, Float: math.Float64frombits(bits)}
}

func text(s string) api.Value { return api.Value{Kind: api.Text, Text: s} }

func opt(items ...api.Value) api.Value { return api.Value{Kind: api.Opt, Items: items} }

func list(items ...api.Value) api.Value { return api.Value{Kind: api.List, Items: items} }

func plain(name string, t api.Type) api.Column { return api.Column{Name: name, Type: t} }

func with(name string, t api.Type, v api.Value) api.Column {
	return api.Column{Name: name, Type: t, Has: true, Default: v}
}

func of(columns ...api.Column) api.Schema { return api.Schema{Columns: columns} }

var (
	ints   = of(plain("a", ofInt))
	texts  = of(plain("a", ofText))
	pairs  = of(plain("a", ofInt), with("b", ofText, text("x")))
	floats = of(with("f", ofFloat, float(theNaN)), with("l", listOf(optOf(ofFloat)), list(opt(float(1<<63)), opt(), opt(float(theNaN)))))
	nested = of(plain("a", listOf(optOf(listOf(ofBytes)))), with("b", optOf(ofText), opt(text("y"))), plain("c", kind(api.Bool)))
)

// longSchema is a schema of n bytes, from 200 on.
func longSchema(n int) api.Schema {
	return of(with("a", ofBytes, api.Value{Kind: api.Bytes, Text: strings.Repeat("x", n-7)}))
}

func schemaFrame(number int64, s api.Schema) api.Frame {
	return api.Frame{Kind: api.SchemaFrame, Number: number, Schema: s}
}

func dataFrame(number, seq, first int64, rows int, block string) api.Frame {
	return api.Frame{Kind: api.DataFrame, Number: number, Seq: seq, First: first, Rows: rows, Block: []byte(block)}
}

func indexFrame(at, frames, rows int64, entries ...api.Entry) api.Frame {
	return api.Frame{Kind: api.IndexFrame, Index: api.Index{At: at, Frames: frames, Rows: rows, Entries: entries}}
}

func entry(at, row, schema int64) api.Entry { return api.Entry{At: at, Row: row, Schema: schema} }

func join(l ...[]byte) []byte { return bytes.Join(l, nil) }

func row(c byte, n int) []byte { return bytes.Repeat([]byte{c}, n) }

func fenced(run string) []byte { return []byte("\x00" + run + "\x00") }

// runOf is a run: a kind and its fields, with their right check, stuffed.
func runOf(fields string) string {
	return string(stuff.Stuff(binary.LittleEndian.AppendUint32([]byte(fields), crc32.ChecksumIEEE([]byte(fields)))))
}

// encoded is a frame's bytes.
func encoded(f api.Frame) []byte {
	b, e := frame.Encode(f)
	if e != api.OK {
		panic("a frame that may not be, of the kind " + strconv.Itoa(f.Kind))
	}
	return b
}

// fullFrame is a first data frame whose run has just n bytes, from 1000 on.
func fullFrame(n int) api.Frame {
	for size := n - 40; size < n; size++ {
		if f := dataFrame(0, 0, 0, 1, string(row(1, size))); len(encoded(f)) == n+2 {
			return f
		}
	}
	panic("no such frame")
}

// mixed is the n-th of a row of well mixed words, the same ones in every run.
func mixed(n uint64) uint64 {
	z := (n + 1) * 0x9e3779b97f4a7c15
	z = (z ^ z>>30) * 0xbf58476d1ce4e5b9
	z = (z ^ z>>27) * 0x94d049bb133111eb
	return z ^ z>>31
}

// mixedBytes are n mixed bytes, about one of `every` of them zero; none, if that is 0.
func mixedBytes(seed uint64, n int, every uint64) []byte {
	b := make([]byte, n)
	for i := range b {
		w := mixed(seed<<24 + uint64(i))
		b[i] = byte(w%255) + 1
		if every > 0 && w>>32%every == 0 {
			b[i] = 0
		}
	}
	return b
}

func showNumbers(b []byte, numbers ...int64) []byte {
	for _, n := range numbers {
		b = strconv.AppendInt(append(b, ' '), n, 10)
	}
	return b
}

func showValue(b []byte, v api.Value) []byte {
	b = showNumbers(append(b, '{'), int64(v.Kind), v.Int, int64(math.Float64bits(v.Float)))
	b = strconv.AppendQuoteToASCII(append(b, ' '), v.Text)
	for _, item := range v.Items {
		b = showValue(b, item)
	}
	return append(b, '}')
}

func showType(b []byte, t api.Type) []byte {
	b = showNumbers(append(b, '<'), int64(t.Kind))
	for _, inner := range t.Of {
		b = showType(b, inner)
	}
	return append(b, '>')
}

// schemaText is all that a schema holds, to the bit.
func schemaText(s api.Schema) string {
	var b []byte
	for _, c := range s.Columns {
		b = showType(strconv.AppendQuoteToASCII(append(b, " ["...), c.Name), c.Type)
		b = append(showValue(strconv.AppendBool(b, c.Has), c.Default), ']')
	}
	return string(b)
}

// brief is the beginning of a text, as whole ones would hide what is wrong with them.
func brief(s string) string { return s[:min(len(s), 400)] }

// taken is a frame that stands at a place.
type taken struct {
	f  api.Frame
	at int64
}

// words are frames one behind the other, by the words of DOC.md ('The file') and of P14.3; whatever is asked is told anew from these.
type words struct{ all []taken }

// of goes through the frames of a kind.
func (w words) of(kind int) iter.Seq[*taken] {
	return func(yield func(one *taken) bool) {
		for i := range w.all {
			if w.all[i].f.Kind == kind && !yield(&w.all[i]) {
				return
			}
		}
	}
}

func (w words) Frames() int64 {
	n := int64(0)
	for range w.of(2) {
		n++
	}
	return n
}

func (w words) Rows() int64 {
	n := int64(0)
	for one := range w.of(2) {
		n += int64(one.f.Rows)
	}
	return n
}

func (w words) Number() int64 {
	n := int64(-1)
	for one := range w.of(1) {
		n = max(n, one.f.Number)
	}
	return n
}

func (w words) Since() int {
	n := 0
	for i := len(w.all) - 1; i >= 0 && w.all[i].f.Kind != 1; i-- {
		if w.all[i].f.Kind == 2 {
			n++
		}
	}
	return n
}

// last is the last schema frame of a number.
func (w words) last(number int64) (taken, bool) {
	told := &taken{}
	for one := range w.of(1) {
		if one.f.Number == number {
			told = one
		}
	}
	return *told, told.f.Kind == 1
}

func (w words) Schema(number int64) (api.Schema, bool) {
	one, is := w.last(number)
	return one.f.Schema, is
}

func (w words) Place(number int64) (int, bool) {
	one, is := w.last(number)
	return int(one.at), is
}

func (w words) Entries() []api.Entry {
	var l []api.Entry
	at := int64(0)
	for i := range w.all {
		one := &w.all[i]
		switch {
		case one.f.Kind == 1:
			at = one.at
		case one.f.Kind == 2 && one.f.Seq%4 == 0 && len(l) < 64:
			l = append(l, entry(one.at, one.f.First, at))
		}
	}
	return l
}

func (w words) Closed() bool { return len(w.all) > 0 && w.all[len(w.all)-1].f.Kind == 3 }

func (w words) follows(f api.Frame, at int64) bool {
	switch f.Kind {
	case 1:
		greatest, is := w.last(w.Number())
		again := is && f.Number == greatest.f.Number && schemaText(f.Schema) == schemaText(greatest.f.Schema)
		return again || is && f.Number == greatest.f.Number+1 || !is && f.Number == 0
	case 2:
		return w.Number() >= 0 && f.Number == w.Number() && f.Seq == w.Frames() && f.First == w.Rows()
	}
	return f.Index.At == at && f.Index.Frames == w.Frames() && f.Index.Rows == w.Rows() && slices.Equal(f.Index.Entries, w.Entries())
}

// ownData and ownIndex are frames that follow these.
func (w words) ownData(rows int, block string) api.Frame {
	return dataFrame(w.Number(), w.Frames(), w.Rows(), rows, block)
}

func (w words) ownIndex(at int64) api.Frame {
	return indexFrame(at, w.Frames(), w.Rows(), w.Entries()...)
}

// teller is what a Walk tells, and what the words tell of it.
type teller interface {
	Frames() int64
	Rows() int64
	Number() int64
	Since() int
	Schema(number int64) (api.Schema, bool)
	Place(number int64) (int, bool)
	Entries() []api.Entry
	Closed() bool
}

// standing is all that a walk tells; of schemas also of some that there are not, as those of frames that go.
func standing(w teller) string {
	b := showNumbers(nil, w.Frames(), w.Rows(), w.Number(), int64(w.Since()))
	b = strconv.AppendBool(append(b, ' '), w.Closed())
	for _, one := range w.Entries() {
		b = showNumbers(append(b, " -"...), one.At, one.Row, one.Schema)
	}
	for n := int64(-1); n < max(6, w.Number()+6); n++ {
		s, known := w.Schema(n)
		at, placed := w.Place(n)
		b = strconv.AppendBool(append(b, ' '), known)
		b = append(append(b, ' '), schemaText(s)...)
		b = strconv.AppendBool(append(b, ' '), placed)
		b = showNumbers(b, int64(at))
	}
	return string(b)
}

// mustStand holds a walk against the words.
func mustStand(t *testing.T, w *scan.Walk, want words) {
	t.Helper()
	if got, all := standing(w), standing(want); got != all {
		t.Fatalf("the walk: %s, want of %d frames: %s", brief(got), len(want.all), brief(all))
	}
}

// laid is a file that is made frame by frame, and its frames.
type laid struct {
	words
	b []byte
}

// lay lays a frame's bytes behind the others, whether it follows them or not.
func (l *laid) lay(f api.Frame) {
	l.all = append(l.all, taken{f, int64(len(l.b))})
	l.b = append(l.b, encoded(f)...)
}

func (l *laid) schema(n int64, s api.Schema) { l.lay(schemaFrame(n, s)) }

func (l *laid) data(rows int, block string) { l.lay(l.ownData(rows, block)) }

func (l *laid) index() { l.lay(l.ownIndex(int64(len(l.b)))) }

// behind is the place behind the first k frames.
func (l *laid) behind(k int) int {
	if k < len(l.all) {
		return int(l.all[k].at)
	}
	return len(l.b)
}

// firstOf are the first k frames.
func (l *laid) firstOf(k int) words { return words{slices.Clip(l.all[:k])} }

// keptOf is how many of the first k frames are to be kept: all but schema frames at the end.
func (l *laid) keptOf(k int) int {
	for k > 0 && l.all[k-1].f.Kind == 1 {
		k--
	}
	return k
}

// device is a file of these bytes, all of them synced.
func device(b []byte) *dev.Dev {
	d, _ := dev.New(api.MaxQuota)
	if d.Tail(b) != api.OK {
		panic("a file that is too long")
	}
	return d
}

// state is all that a file tells but how much was read.
func state(d *dev.Dev) string {
	return string(showNumbers(d.All(), int64(d.Len()), int64(d.Quota()), int64(d.Synced()), int64(d.Written()))) + map[bool]string{true: "up"}[d.Up()]
}

// takeDown lets the file's power fail; its bytes stay.
func takeDown(d *dev.Dev) {
	d.Sync()
	d.Fail(0, 0)
	if d.Cut(0) != api.ErrPower || d.Up() {
		panic("a file that is up")
	}
}

// wordRun is the run that the fence at the beginning of some bytes opens; its error is that of scan.At.
func wordRun(b []byte) (string, api.Errno) {
	switch size := bytes.IndexByte(b[1:], 0); {
	case b[0] != 0:
		return "", api.ErrFence
	case size == 0:
		return "", api.ErrEmpty
	case size < 0 && len(b) >= maxFrame+2 || size > maxFrame:
		return "", api.ErrLong
	case size < 0:
		return "", api.ErrTorn
	default:
		return string(b[1 : 1+size]), api.OK
	}
}

// wordWhole is P14.5 by the words: the frames that follow one another, the place behind them, and why it ends there.
func wordWhole(b []byte) (w words, at int, e api.Errno) {
	for at < len(b) {
		run, e := wordRun(b[at:])
		if e != api.OK {
			return w, at, e
		}
		f, e := frame.Decode([]byte(run))
		if e != api.OK {
			return w, at, e
		}
		if !w.follows(f, int64(at)) {
			return w, at, api.ErrOrder
		}
		w.all = append(w.all, taken{f, int64(at)})
		at += len(run) + 2
	}
	return w, at, api.ErrEnd
}

// hasFrame tells whether some bytes between two zeros, with none among them, are a frame.
func hasFrame(b []byte) bool {
	pieces := bytes.Split(b, []byte{0})
	for i, run := range pieces {
		if _, e := frame.Decode(run); i > 0 && i < len(pieces)-1 && e == api.OK {
			return true
		}
	}
	return false
}

// wordLook is P15.1 by the words, of a file that is up.
func wordLook(b []byte) (int, words, api.Errno) {
	w, end, e := wordWhole(b)
	if e != api.ErrEnd && hasFrame(b[end:]) {
		return 0, words{}, api.ErrDamaged
	}
	l := laid{w, b[:end]}
	k := l.keptOf(len(w.all))
	return l.behind(k), l.firstOf(k), api.OK
}
