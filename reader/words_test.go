package reader_test

import (
	"bytes"
	"encoding/binary"
	"hash/crc32"
	"iter"
	"math"
	"slices"
	"strconv"
	"strings"
	"testing"

	"gabion/api"
	"gabion/batch"
	"gabion/dev"
	"gabion/frame"
	"gabion/reader"
	"gabion/resolve"
	"gabion/scan"
	"gabion/stuff"
)

// The document's limits, told by hand.
const (
	maxFrame = 2200
	mostRead = 2202
	theNaN   = 0x7ff8000000000000
)

func kind(k int, of ...api.Type) api.Type { return api.Type{Kind: k, Of: of} }

var (
	ofBool  = kind(api.Bool)
	ofInt   = kind(api.Int)
	ofFloat = kind(api.Float)
	ofText  = kind(api.Text)
	ofBytes = kind(api.Bytes)
)

func optOf(t api.Type) api.Type { return kind(api.Opt, t) }

func listOf(t api.Type) api.Type { return kind(api.List, t) }

func boolean(n int64) api.Value { return api.Value{Kind: api.Bool, Int: n} }

func number(n int64) api.Value { return api.Value{Kind: api.Int, Int: n} }

func float(x float64) api.Value { return api.Value{Kind: api.Float, Float: x} }

func bits(b uint64) api.Value { return float(math.Float64frombits(b)) }

func text(s string) api.Value { return api.Value{Kind: api.Text, Text: s} }

func rawBytes(s string) api.Value { return api.Value{Kind: api.Bytes, Text: s} }

func opt(items ...api.Value) api.Value { return api.Value{Kind: api.Opt, Items: items} }

func list(items ...api.Value) api.Value { return api.Value{Kind: api.List, Items: items} }

func plain(name string, t api.Type) api.Column { return api.Column{Name: name, Type: t} }

func with(name string, t api.Type, v api.Value) api.Column {
	return api.Column{Name: name, Type: t, Has: true, Default: v}
}

func of(columns ...api.Column) api.Schema { return api.Schema{Columns: columns} }

func values(l ...api.Value) api.Row { return api.Row{Values: l} }

// rows is rows of one value each.
func rows(l ...api.Value) []api.Row {
	var all []api.Row
	for _, v := range l {
		all = append(all, values(v))
	}
	return all
}

// numbers is rows of one number each.
func numbers(l ...int64) []api.Row {
	var all []api.Row
	for _, n := range l {
		all = append(all, values(number(n)))
	}
	return all
}

var (
	ints   = of(plain("a", ofInt))
	texts  = of(plain("a", ofText))
	two    = of(plain("a", ofInt), plain("b", ofText))
	floats = of(plain("f", ofFloat), with("l", listOf(optOf(ofFloat)), list(opt(bits(1<<63)), opt(), opt(bits(theNaN)))))
	nested = of(plain("a", listOf(optOf(listOf(ofBytes)))), with("b", optOf(ofText), opt(text("y"))), plain("c", ofBool))
)

// wide is a schema of n columns of unlike names.
func wide(n int) api.Schema {
	s := api.Schema{}
	for i := range n {
		s.Columns = append(s.Columns, plain("c"+strconv.Itoa(i), ofInt))
	}
	return s
}

// longSchema is a schema of n bytes, from 200 on.
func longSchema(n int) api.Schema {
	return of(with("a", ofBytes, rawBytes(strings.Repeat("x", n-7))))
}

func schemaFrame(number int64, s api.Schema) api.Frame {
	return api.Frame{Kind: api.SchemaFrame, Number: number, Schema: s}
}

func dataFrame(number, seq, first int64, rows int, block string) api.Frame {
	return api.Frame{Kind: api.DataFrame, Number: number, Seq: seq, First: first, Rows: rows, Block: []byte(block)}
}

func indexFrame(at, frames, rows int64, entries ...api.Entry) api.Frame {
	return api.Frame{Kind: api.IndexFrame, Index: api.Index{At: at, Frames: frames, Rows: rows, Entries: entries}}
}

func entry(at, row, schema int64) api.Entry { return api.Entry{At: at, Row: row, Schema: schema} }

func join(l ...[]byte) []byte { return bytes.Join(l, nil) }

func row(c byte, n int) []byte { return bytes.Repeat([]byte{c}, n) }

func fenced(run string) []byte { return []byte("\x00" + run + "\x00") }

// runOf is a run: a kind and its fields, with their right check, stuffed.
func runOf(fields string) string {
	return string(stuff.Stuff(binary.LittleEndian.AppendUint32([]byte(fields), crc32.ChecksumIEEE([]byte(fields)))))
}

// encoded is a frame's bytes.
func encoded(f api.Frame) []byte {
	b, e := frame.Encode(f)
	if e != api.OK {
		panic("a frame that may not be, of the kind " + strconv.Itoa(f.Kind))
	}
	return b
}

// packed is rows of a schema as a block.
func packed(s api.Schema, l []api.Row) string {
	b, e := batch.Pack(s, l)
	if e != api.OK {
		panic("rows that may not be a block: " + strconv.Itoa(int(e)))
	}
	return string(b)
}

// mixed is the n-th of a row of well mixed words, the same ones in every run.
func mixed(n uint64) uint64 {
	z := (n + 1) * 0x9e3779b97f4a7c15
	z = (z ^ z>>30) * 0xbf58476d1ce4e5b9
	z = (z ^ z>>27) * 0x94d049bb133111eb
	return z ^ z>>31
}

// mixedBytes are n mixed bytes, about one of `every` of them zero; none, if that is 0.
func mixedBytes(seed uint64, n int, every uint64) []byte {
	b := make([]byte, n)
	for i := range b {
		w := mixed(seed<<24 + uint64(i))
		b[i] = byte(w%255) + 1
		if every > 0 && w>>32%every == 0 {
			b[i] = 0
		}
	}
	return b
}

func showNumbers(b []byte, numbers ...int64) []byte {
	for _, n := range numbers {
		b = strconv.AppendInt(append(b, ' '), n, 10)
	}
	return b
}

func showValue(b []byte, v api.Value) []byte {
	b = showNumbers(append(b, '{'), int64(v.Kind), v.Int, int64(math.Float64bits(v.Float)))
	b = strconv.AppendQuoteToASCII(append(b, ' '), v.Text)
	for _, item := range v.Items {
		b = showValue(b, item)
	}
	return append(b, '}')
}

func showType(b []byte, t api.Type) []byte {
	b = showNumbers(append(b, '<'), int64(t.Kind))
	for _, inner := range t.Of {
		b = showType(b, inner)
	}
	return append(b, '>')
}

// schemaText is all that a schema holds, to the bit.
func schemaText(s api.Schema) string {
	var b []byte
	for _, c := range s.Columns {
		b = showType(strconv.AppendQuoteToASCII(append(b, " ["...), c.Name), c.Type)
		b = append(showValue(strconv.AppendBool(b, c.Has), c.Default), ']')
	}
	return string(b)
}

// rowText is all that a row holds, to the bit.
func rowText(r api.Row) string {
	var b []byte
	for _, v := range r.Values {
		b = showValue(b, v)
	}
	return string(b)
}

// toldText is all that rows that were told hold, to the bit.
func toldText(l ...api.Told) string {
	var b []byte
	for _, one := range l {
		b = showNumbers(append(b, '('), one.At, one.Number, int64(one.E))
		b = append(append(b, rowText(one.Row)...), ')')
	}
	return string(b)
}

// brief is the beginning of a text, as whole ones would hide what is wrong with them.
func brief(s string) string { return s[:min(len(s), 400)] }

// taken is a frame that stands at a place.
type taken struct {
	f  api.Frame
	at int64
}

// words are frames one behind the other, by the words of DOC.md ('The file'), and what they began with (of a Resume); whatever is asked is told anew from these.
type words struct {
	frames, count int64
	begun         []api.Entry
	all           []taken
}

// of goes through the frames of a kind.
func (w words) of(kind int) iter.Seq[*taken] {
	return func(yield func(one *taken) bool) {
		for i := range w.all {
			if w.all[i].f.Kind == kind && !yield(&w.all[i]) {
				return
			}
		}
	}
}

func (w words) Frames() int64 {
	n := w.frames
	for range w.of(2) {
		n++
	}
	return n
}

func (w words) Rows() int64 {
	n := w.count
	for one := range w.of(2) {
		n += int64(one.f.Rows)
	}
	return n
}

func (w words) Number() int64 {
	n := int64(-1)
	for one := range w.of(1) {
		n = max(n, one.f.Number)
	}
	return n
}

// schema is the schema of the greatest number.
func (w words) schema() (api.Schema, bool) {
	told, greatest := &taken{}, w.Number()
	for one := range w.of(1) {
		if one.f.Number == greatest {
			told = one
		}
	}
	return told.f.Schema, told.f.Kind == 1
}

func (w words) Entries() []api.Entry {
	l := slices.Clone(w.begun)
	at := int64(0)
	for i := range w.all {
		one := &w.all[i]
		switch {
		case one.f.Kind == 1:
			at = one.at
		case one.f.Kind == 2 && one.f.Seq%4 == 0 && len(l) < 64:
			l = append(l, entry(one.at, one.f.First, at))
		}
	}
	return l
}

func (w words) follows(f api.Frame, at int64) bool {
	switch f.Kind {
	case 1:
		s, is := w.schema()
		again := is && f.Number == w.Number() && schemaText(f.Schema) == schemaText(s)
		return again || f.Number == w.Number()+1
	case 2:
		return w.Number() >= 0 && f.Number == w.Number() && f.Seq == w.Frames() && f.First == w.Rows()
	}
	return f.Index.At == at && f.Index.Frames == w.Frames() && f.Index.Rows == w.Rows() && slices.Equal(f.Index.Entries, w.Entries())
}

// ownData and ownIndex are frames that follow these.
func (w words) ownData(rows int, block string) api.Frame {
	return dataFrame(w.Number(), w.Frames(), w.Rows(), rows, block)
}

func (w words) ownIndex(at int64) api.Frame {
	return indexFrame(at, w.Frames(), w.Rows(), w.Entries()...)
}

// laid is a file that is made frame by frame, and its frames.
type laid struct {
	words
	b []byte
}

// lay lays a frame's bytes behind the others, whether it follows them or not.
func (l *laid) lay(f api.Frame) {
	l.all = append(l.all, taken{f, int64(len(l.b))})
	l.b = append(l.b, encoded(f)...)
}

func (l *laid) schema(n int64, s api.Schema) { l.lay(schemaFrame(n, s)) }

// data lays rows of the last schema.
func (l *laid) data(rows []api.Row) {
	s, _ := l.words.schema()
	l.lay(l.ownData(len(rows), packed(s, rows)))
}

func (l *laid) index() { l.lay(l.ownIndex(int64(len(l.b)))) }

// place is where the k-th frame stands; of the first one behind the last the file's end.
func (l *laid) place(k int) int {
	if k < len(l.all) {
		return int(l.all[k].at)
	}
	return len(l.b)
}

// firstOf are the first k frames.
func (l *laid) firstOf(k int) words { return words{all: slices.Clip(l.all[:k])} }

// walk is the walk that took these.
func (w words) walk() *scan.Walk {
	told := scan.New()
	for _, one := range w.all {
		if told.Next(one.f, int(one.at)) != api.OK {
			panic("a frame that does not follow")
		}
	}
	return told
}

// standing is all that a walk tells.
func standing(w *scan.Walk) string {
	b := showNumbers(nil, w.Frames(), w.Rows(), w.Number(), int64(w.Since()))
	b = strconv.AppendBool(append(b, ' '), w.Closed())
	for _, one := range w.Entries() {
		b = showNumbers(append(b, " -"...), one.At, one.Row, one.Schema)
	}
	for n := int64(-1); n < w.Number()+6; n++ {
		s, known := w.Schema(n)
		at, _ := w.Place(n)
		b = strconv.AppendBool(append(b, ' '), known)
		b = showNumbers(append(append(b, ' '), schemaText(s)...), int64(at))
	}
	return string(b)
}

// device is a file of these bytes, all of them synced.
func device(b []byte) *dev.Dev {
	d, _ := dev.New(api.MaxQuota)
	if d.Tail(b) != api.OK {
		panic("a file that is too long")
	}
	return d
}

// state is all that a file tells but how much was read.
func state(d *dev.Dev) string {
	return string(showNumbers(d.All(), int64(d.Len()), int64(d.Quota()), int64(d.Synced()), int64(d.Written()))) + map[bool]string{true: "up"}[d.Up()]
}

// takeDown lets the file's power fail; its bytes stay.
func takeDown(d *dev.Dev) {
	d.Sync()
	d.Fail(0, 0)
	if d.Cut(0) != api.ErrPower || d.Up() {
		panic("a file that is up")
	}
}

// wordAt is P14.1 by the words: the frame at a place, the place behind it, the error, and how many bytes are read.
func wordAt(d *dev.Dev, at int) (f api.Frame, behind int, e api.Errno, read int) {
	b := d.All()
	switch {
	case !d.Up():
		return f, 0, api.ErrDown, 0
	case at < 0 || at > len(b):
		return f, 0, api.ErrRange, 0
	case at == len(b):
		return f, 0, api.ErrEnd, 0
	}
	b = b[at:min(len(b), at+mostRead)]
	switch size := bytes.IndexByte(b[1:], 0); {
	case b[0] != 0:
		e = api.ErrFence
	case size == 0:
		e = api.ErrEmpty
	case size < 0 && len(b) == mostRead:
		e = api.ErrLong
	case size < 0:
		e = api.ErrTorn
	default:
		f, e = frame.Decode(b[1 : 1+size])
		behind = at + size + 2
	}
	return f, behind, e, len(b)
}

// wordReader is a reader by the words of P16.1 to P16.3: where it stands, the frames that it took, what it reads under (nil: nothing), how many rows it passes over.
type wordReader struct {
	words
	at, skip int
	under    *api.Schema
	left     []api.Told
	ended    api.Errno
}

// next is P16.2 by the words, and how many bytes are read.
func (r *wordReader) next(d *dev.Dev) (one api.Told, is bool, read int) {
	for r.ended == api.OK {
		if len(r.left) > 0 {
			one, r.left = r.left[0], r.left[1:]
			if r.skip <= 0 {
				return one, true, read
			}
			r.skip--
			continue
		}
		n := 0
		r.ended, n = r.frame(d)
		read += n
	}
	return api.Told{}, false, read
}

// frame reads the next frame, whichever, and what rows it has.
func (r *wordReader) frame(d *dev.Dev) (api.Errno, int) {
	f, behind, e, read := wordAt(d, r.at)
	if e != api.OK {
		return e, read
	}
	if !r.follows(f, int64(r.at)) {
		return api.ErrOrder, read
	}
	r.all = append(slices.Clip(r.all), taken{f, int64(r.at)})
	r.at = behind
	if f.Kind != 2 {
		return api.OK, read
	}
	s, _ := r.schema()
	l, e := batch.Unpack(s, f.Block, f.Rows)
	for i, one := range l {
		r.left = append(r.left, r.tell(s, one, api.Told{At: f.First + int64(i), Number: f.Number}))
	}
	return e, read
}

// tell is a row, as it was written or under a schema.
func (r *wordReader) tell(s api.Schema, written api.Row, one api.Told) api.Told {
	if r.under == nil {
		one.Row = written
		return one
	}
	if one.E = resolve.Check(s, *r.under); one.E == api.OK {
		one.Row, one.E = resolve.Row(s, *r.under, written)
	}
	return one
}

// err is P16.3 by the words.
func (r *wordReader) err() api.Errno {
	if r.ended == api.ErrEnd {
		return api.OK
	}
	return r.ended
}

// pair is a Reader of a file, and what the words say of it.
type pair struct {
	d     *dev.Dev
	r     *reader.Reader
	words wordReader
}

// raw, as and from are readers, none of which has read anything.
func raw(t *testing.T, d *dev.Dev) *pair {
	t.Helper()
	return made(t, d, wordReader{}, func() *reader.Reader { return reader.Raw(d) })
}

func as(t *testing.T, d *dev.Dev, s api.Schema, names ...string) *pair {
	t.Helper()
	under := s
	if len(names) > 0 {
		under, _ = resolve.Project(s, names)
	}
	return made(t, d, wordReader{under: &under}, func() *reader.Reader {
		r, e := reader.As(d, s, names)
		if e != api.OK {
			t.Fatalf("As: %d", e)
		}
		return r
	})
}

func from(t *testing.T, d *dev.Dev, at, skip int, w *scan.Walk, all words) *pair {
	t.Helper()
	before := standing(w)
	p := made(t, d, wordReader{words: all, at: at, skip: skip}, func() *reader.Reader { return reader.From(d, at, skip, w) })
	if standing(w) != before {
		t.Fatalf("From changed the walk")
	}
	return p
}

func made(t *testing.T, d *dev.Dev, words wordReader, call func() *reader.Reader) *pair {
	t.Helper()
	before, counted := state(d), d.Counted()
	p := &pair{d, call(), words}
	if p.r == nil || state(d) != before || d.Counted() != counted {
		t.Fatalf("no reader, or one that has read or changed something: %d bytes", d.Counted()-counted)
	}
	p.stands(t)
	return p
}

// stands holds Err against the words: it reads nothing.
func (p *pair) stands(t *testing.T) {
	t.Helper()
	counted := p.d.Counted()
	if e := p.r.Err(); e != p.words.err() || p.d.Counted() != counted {
		t.Fatalf("Err: %d, want %d; %d bytes read", e, p.words.err(), p.d.Counted()-counted)
	}
}

// next holds Next against the words: what it tells, how many bytes it reads, and that nothing of the file changes.
func (p *pair) next(t *testing.T) (api.Told, bool) {
	t.Helper()
	before, counted := state(p.d), p.d.Counted()
	want, wantIs, read := p.words.next(p.d)
	got, is := p.r.Next()
	if is != wantIs || toldText(got) != toldText(want) {
		t.Fatalf("Next: %s, %v, want %s, %v", brief(toldText(got)), is, brief(toldText(want)), wantIs)
	}
	if p.d.Counted()-counted != read || state(p.d) != before {
		t.Fatalf("Next: %d bytes read, want %d; the file is the same: %v", p.d.Counted()-counted, read, state(p.d) == before)
	}
	p.stands(t)
	return got, is
}

// all holds All against the words likewise.
func (p *pair) all(t *testing.T) []api.Told {
	t.Helper()
	var want []api.Told
	before, counted, read := state(p.d), p.d.Counted(), 0
	for {
		one, is, n := p.words.next(p.d)
		read += n
		if !is {
			break
		}
		want = append(want, one)
	}
	got := p.r.All()
	if len(got) != len(want) || toldText(got...) != toldText(want...) {
		t.Fatalf("All: %d rows: %s, want %d: %s", len(got), brief(toldText(got...)), len(want), brief(toldText(want...)))
	}
	if p.d.Counted()-counted != read || state(p.d) != before {
		t.Fatalf("All: %d bytes read, want %d; the file is the same: %v", p.d.Counted()-counted, read, state(p.d) == before)
	}
	p.stands(t)
	return got
}

// toEnd goes on by Next to the end, and tells the rows; behind the end there is nothing more, and nothing is read.
func (p *pair) toEnd(t *testing.T) []api.Told {
	t.Helper()
	var told []api.Told
	for {
		one, is := p.next(t)
		if !is {
			p.over(t)
			return told
		}
		told = append(told, one)
	}
}

// over asks that a reader has ended, and that it stays so.
func (p *pair) over(t *testing.T) {
	t.Helper()
	counted, e := p.d.Counted(), p.r.Err()
	for range 2 {
		if one, is := p.r.Next(); is || toldText(one) != toldText(api.Told{}) {
			t.Fatalf("behind the end: %s, %v", brief(toldText(one)), is)
		}
		if l := p.r.All(); len(l) > 0 || p.r.Err() != e || p.d.Counted() != counted {
			t.Fatalf("behind the end: %d rows, %d, %d bytes read", len(l), p.r.Err(), p.d.Counted()-counted)
		}
	}
}

// must goes to the end, with the rows' texts and why it ends told by hand.
func (p *pair) must(t *testing.T, want api.Errno, told ...api.Told) {
	t.Helper()
	if l := p.toEnd(t); len(l) != len(told) || toldText(l...) != toldText(told...) || p.r.Err() != want {
		t.Fatalf("%s, %d, want %s, %d by hand", brief(toldText(l...)), p.r.Err(), brief(toldText(told...)), want)
	}
}

// one is a row that is told: its number, its schema's, its values.
func one(at, number int64, l ...api.Value) api.Told {
	return api.Told{At: at, Number: number, Row: values(l...)}
}

// refused is one that can't be told.
func refused(at, number int64, e api.Errno) api.Told {
	return api.Told{At: at, Number: number, E: e}
}
