package index_test

import (
	"bytes"
	"encoding/binary"
	"hash/crc32"
	"iter"
	"math"
	"slices"
	"strconv"
	"strings"
	"testing"

	"gabion/api"
	"gabion/batch"
	"gabion/dev"
	"gabion/frame"
	"gabion/index"
	"gabion/reader"
	"gabion/stuff"
)

// The document's limits, told by hand.
const (
	maxFrame  = 2200
	mostRead  = 2202
	mostLast  = 2 * 2202
	mostShort = (4 + 8 + 3) * 2202
	theNaN    = 0x7ff8000000000000
)

func kind(k int, of ...api.Type) api.Type { return api.Type{Kind: k, Of: of} }

var (
	ofBool  = kind(api.Bool)
	ofInt   = kind(api.Int)
	ofFloat = kind(api.Float)
	ofText  = kind(api.Text)
	ofBytes = kind(api.Bytes)
)

func optOf(t api.Type) api.Type { return kind(api.Opt, t) }

func listOf(t api.Type) api.Type { return kind(api.List, t) }

func boolean(n int64) api.Value { return api.Value{Kind: api.Bool, Int: n} }

func number(n int64) api.Value { return api.Value{Kind: api.Int, Int: n} }

func float(x float64) api.Value { return api.Value{Kind: api.Float, Float: x} }

func bits(b uint64) api.Value { return float(math.Float64frombits(b)) }

func text(s string) api.Value { return api.Value{Kind: api.Text, Text: s} }

func rawBytes(s string) api.Value { return api.Value{Kind: api.Bytes, Text: s} }

func opt(items ...api.Value) api.Value { return api.Value{Kind: api.Opt, Items: items} }

func list(items ...api.Value) api.Value { return api.Value{Kind: api.List, Items: items} }

func plain(name string, t api.Type) api.Column { return api.Column{Name: name, Type: t} }

func with(name string, t api.Type, v api.Value) api.Column {
	return api.Column{Name: name, Type: t, Has: true, Default: v}
}

func of(columns ...api.Column) api.Schema { return api.Schema{Columns: columns} }

func values(l ...api.Value) api.Row { return api.Row{Values: l} }

// rows is rows of one value each.
func rows(l ...api.Value) []api.Row {
	var all []api.Row
	for _, v := range l {
		all = append(all, values(v))
	}
	return all
}

// numbers is rows of one number each.
func numbers(l ...int64) []api.Row {
	var all []api.Row
	for _, n := range l {
		all = append(all, values(number(n)))
	}
	return all
}

var (
	ints   = of(plain("a", ofInt))
	texts  = of(plain("a", ofText))
	two    = of(plain("a", ofInt), plain("b", ofText))
	floats = of(plain("f", ofFloat), with("l", listOf(optOf(ofFloat)), list(opt(bits(1<<63)), opt(), opt(bits(theNaN)))))
	nested = of(plain("a", listOf(optOf(listOf(ofBytes)))), with("b", optOf(ofText), opt(text("y"))), plain("c", ofBool))
)

// wide is a schema of n columns of unlike names.
func wide(n int) api.Schema {
	s := api.Schema{}
	for i := range n {
		s.Columns = append(s.Columns, plain("c"+strconv.Itoa(i), ofInt))
	}
	return s
}

// longSchema is a schema of n bytes, from 200 on.
func longSchema(n int) api.Schema {
	return of(with("a", ofBytes, rawBytes(strings.Repeat("x", n-7))))
}

func schemaFrame(number int64, s api.Schema) api.Frame {
	return api.Frame{Kind: api.SchemaFrame, Number: number, Schema: s}
}

func dataFrame(number, seq, first int64, rows int, block string) api.Frame {
	return api.Frame{Kind: api.DataFrame, Number: number, Seq: seq, First: first, Rows: rows, Block: []byte(block)}
}

func indexFrame(at, frames, rows int64, entries ...api.Entry) api.Frame {
	return api.Frame{Kind: api.IndexFrame, Index: api.Index{At: at, Frames: frames, Rows: rows, Entries: entries}}
}

func entry(at, row, schema int64) api.Entry { return api.Entry{At: at, Row: row, Schema: schema} }

func join(l ...[]byte) []byte { return bytes.Join(l, nil) }

func row(c byte, n int) []byte { return bytes.Repeat([]byte{c}, n) }

func fenced(run string) []byte { return []byte("\x00" + run + "\x00") }

// runOf is a run: a kind and its fields, with their right check, stuffed.
func runOf(fields string) string {
	return string(stuff.Stuff(binary.LittleEndian.AppendUint32([]byte(fields), crc32.ChecksumIEEE([]byte(fields)))))
}

// encoded is a frame's bytes.
func encoded(f api.Frame) []byte {
	b, e := frame.Encode(f)
	if e != api.OK {
		panic("a frame that may not be, of the kind " + strconv.Itoa(f.Kind))
	}
	return b
}

// packed is rows of a schema as a block.
func packed(s api.Schema, l []api.Row) string {
	b, e := batch.Pack(s, l)
	if e != api.OK {
		panic("rows that may not be a block: " + strconv.Itoa(int(e)))
	}
	return string(b)
}

// mixed is the n-th of a row of well mixed words, the same ones in every run.
func mixed(n uint64) uint64 {
	z := (n + 1) * 0x9e3779b97f4a7c15
	z = (z ^ z>>30) * 0xbf58476d1ce4e5b9
	z = (z ^ z>>27) * 0x94d049bb133111eb
	return z ^ z>>31
}

// mixedBytes are n mixed bytes, about one of `every` of them zero; none, if that is 0.
func mixedBytes(seed uint64, n int, every uint64) []byte {
	b := make([]byte, n)
	for i := range b {
		w := mixed(seed<<24 + uint64(i))
		b[i] = byte(w%255) + 1
		if every > 0 && w>>32%every == 0 {
			b[i] = 0
		}
	}
	return b
}

func showNumbers(b []byte, numbers ...int64) []byte {
	for _, n := range numbers {
		b = strconv.AppendInt(append(b, ' '), n, 10)
	}
	return b
}

func showValue(b []byte, v api.Value) []byte {
	b = showNumbers(append(b, '{'), int64(v.Kind), v.Int, int64(math.Float64bits(v.Float)))
	b = strconv.AppendQuoteToASCII(append(b, ' '), v.Text)
	for _, item := range v.Items {
		b = showValue(b, item)
	}
	return append(b, '}')
}

func showType(b []byte, t api.Type) []byte {
	b = showNumbers(append(b, '<'), int64(t.Kind))
	for _, inner := range t.Of {
		b = showType(b, inner)
	}
	return append(b, '>')
}

// schemaText is all that a schema holds, to the bit.
func schemaText(s api.Schema) string {
	var b []byte
	for _, c := range s.Columns {
		b = showType(strconv.AppendQuoteToASCII(append(b, " ["...), c.Name), c.Type)
		b = append(showValue(strconv.AppendBool(b, c.Has), c.Default), ']')
	}
	return string(b)
}

// rowText is all that a row holds, to the bit.
func rowText(r api.Row) string {
	var b []byte
	for _, v := range r.Values {
		b = showValue(b, v)
	}
	return string(b)
}

// toldText is all that rows that were told hold, to the bit.
func toldText(l ...api.Told) string {
	var b []byte
	for _, one := range l {
		b = showNumbers(append(b, '('), one.At, one.Number, int64(one.E))
		b = append(append(b, rowText(one.Row)...), ')')
	}
	return string(b)
}

// brief is the beginning of a text, as whole ones would hide what is wrong with them.
func brief(s string) string { return s[:min(len(s), 400)] }

// taken is a frame that stands at a place.
type taken struct {
	f  api.Frame
	at int64
}

// words are frames one behind the other, by the words of DOC.md ('The file'), and what they began with (of a Resume); whatever is asked is told anew from these.
type words struct {
	frames, count int64
	begun         []api.Entry
	all           []taken
}

// of goes through the frames of a kind.
func (w words) of(kind int) iter.Seq[*taken] {
	return func(yield func(one *taken) bool) {
		for i := range w.all {
			if w.all[i].f.Kind == kind && !yield(&w.all[i]) {
				return
			}
		}
	}
}

func (w words) Frames() int64 {
	n := w.frames
	for range w.of(2) {
		n++
	}
	return n
}

func (w words) Rows() int64 {
	n := w.count
	for one := range w.of(2) {
		n += int64(one.f.Rows)
	}
	return n
}

func (w words) Number() int64 {
	n := int64(-1)
	for one := range w.of(1) {
		n = max(n, one.f.Number)
	}
	return n
}

// schema is the schema of the greatest number.
func (w words) schema() (api.Schema, bool) {
	told, greatest := &taken{}, w.Number()
	for one := range w.of(1) {
		if one.f.Number == greatest {
			told = one
		}
	}
	return told.f.Schema, told.f.Kind == 1
}

func (w words) Entries() []api.Entry {
	l := slices.Clone(w.begun)
	at := int64(0)
	for i := range w.all {
		one := &w.all[i]
		switch {
		case one.f.Kind == 1:
			at = one.at
		case one.f.Kind == 2 && one.f.Seq%4 == 0 && len(l) < 64:
			l = append(l, entry(one.at, one.f.First, at))
		}
	}
	return l
}

func (w words) follows(f api.Frame, at int64) bool {
	switch f.Kind {
	case 1:
		s, is := w.schema()
		again := is && f.Number == w.Number() && schemaText(f.Schema) == schemaText(s)
		return again || f.Number == w.Number()+1
	case 2:
		return w.Number() >= 0 && f.Number == w.Number() && f.Seq == w.Frames() && f.First == w.Rows()
	}
	return f.Index.At == at && f.Index.Frames == w.Frames() && f.Index.Rows == w.Rows() && slices.Equal(f.Index.Entries, w.Entries())
}

// ownData and ownIndex are frames that follow these.
func (w words) ownData(rows int, block string) api.Frame {
	return dataFrame(w.Number(), w.Frames(), w.Rows(), rows, block)
}

func (w words) ownIndex(at int64) api.Frame {
	return indexFrame(at, w.Frames(), w.Rows(), w.Entries()...)
}

// laid is a file that is made frame by frame, and its frames.
type laid struct {
	words
	b []byte
}

// lay lays a frame's bytes behind the others, whether it follows them or not.
func (l *laid) lay(f api.Frame) {
	l.all = append(l.all, taken{f, int64(len(l.b))})
	l.b = append(l.b, encoded(f)...)
}

func (l *laid) schema(n int64, s api.Schema) { l.lay(schemaFrame(n, s)) }

// data lays rows of the last schema.
func (l *laid) data(rows []api.Row) {
	s, _ := l.words.schema()
	l.lay(l.ownData(len(rows), packed(s, rows)))
}

func (l *laid) index() { l.lay(l.ownIndex(int64(len(l.b)))) }

// place is where the k-th frame stands; of the first one behind the last the file's end.
func (l *laid) place(k int) int {
	if k < len(l.all) {
		return int(l.all[k].at)
	}
	return len(l.b)
}

// firstOf are the first k frames.
func (l *laid) firstOf(k int) words { return words{all: slices.Clip(l.all[:k])} }

// device is a file of these bytes, all of them synced.
func device(b []byte) *dev.Dev {
	d, _ := dev.New(api.MaxQuota)
	if d.Tail(b) != api.OK {
		panic("a file that is too long")
	}
	return d
}

// state is all that a file tells but how much was read.
func state(d *dev.Dev) string {
	return string(showNumbers(d.All(), int64(d.Len()), int64(d.Quota()), int64(d.Synced()), int64(d.Written()))) + map[bool]string{true: "up"}[d.Up()]
}

// takeDown lets the file's power fail; its bytes stay.
func takeDown(d *dev.Dev) {
	d.Sync()
	d.Fail(0, 0)
	if d.Cut(0) != api.ErrPower || d.Up() {
		panic("a file that is up")
	}
}

// wordAt is P14.1 by the words: the frame at a place, the place behind it, and the error.
func wordAt(b []byte, at int) (f api.Frame, behind int, e api.Errno) {
	switch {
	case at < 0 || at > len(b):
		return f, 0, api.ErrRange
	case at == len(b):
		return f, 0, api.ErrEnd
	}
	b = b[at:min(len(b), at+mostRead)]
	switch size := bytes.IndexByte(b[1:], 0); {
	case b[0] != 0:
		e = api.ErrFence
	case size == 0:
		e = api.ErrEmpty
	case size < 0 && len(b) == mostRead:
		e = api.ErrLong
	case size < 0:
		e = api.ErrTorn
	default:
		f, e = frame.Decode(b[1 : 1+size])
		behind = at + size + 2
	}
	return f, behind, e
}

// wordRead is P16.2 by the words: all rows from a place on, behind the frames that these are, and why there are no more.
func wordRead(b []byte, at int, w words) (told []api.Told, e api.Errno) {
	for {
		f, behind, e := wordAt(b, at)
		if e != api.OK {
			return told, e
		}
		if !w.follows(f, int64(at)) {
			return told, api.ErrOrder
		}
		w.all = append(slices.Clip(w.all), taken{f, int64(at)})
		at = behind
		if f.Kind != 2 {
			continue
		}
		s, _ := w.schema()
		l, e := batch.Unpack(s, f.Block, f.Rows)
		if e != api.OK {
			return told, e
		}
		for i, r := range l {
			told = append(told, api.Told{At: f.First + int64(i), Number: f.Number, Row: r})
		}
	}
}

// wordRun is the chapter's word of a run: the bytes between the last byte ahead of a place and the last zero ahead of that, if both are zero, and not further than a frame may reach; its place, and the frame that it is.
func wordRun(b []byte, end int) (f api.Frame, at int64, is bool) {
	if end == 0 || b[end-1] != 0 {
		return f, 0, false
	}
	opening := end - 2
	for opening >= 0 && b[opening] != 0 {
		opening--
	}
	if opening < 0 || end-opening > mostRead {
		return f, 0, false
	}
	f, e := frame.Decode(b[opening+1 : end-1])
	return f, int64(opening), e == api.OK
}

// wordFresh is the chapter's word of a fresh index.
func wordFresh(b []byte) (x api.Index, is bool) {
	f, at, is := wordRun(b, len(b))
	if !is || f.Kind != 3 || f.Index.At != at {
		return x, false
	}
	if f.Index.Frames == 0 && f.Index.Rows == 0 && at == 0 {
		return f.Index, true
	}
	g, _, is := wordRun(b, int(at))
	if !is || g.Kind != 2 || g.Seq != f.Index.Frames-1 || g.First+int64(g.Rows) != f.Index.Rows {
		return x, false
	}
	return f.Index, true
}

// answer is what a reader tells, and what it ends for; or the error, where there is none.
type answer struct {
	told []api.Told
	end  api.Errno
	e    api.Errno
}

// text is all of it, to the bit.
func (a answer) text() string {
	return string(showNumbers(nil, int64(len(a.told)), int64(a.end), int64(a.e))) + toldText(a.told...)
}

// passed is what is left of an answer behind n rows.
func (a answer) passed(n int64) answer {
	a.told = a.told[min(n, int64(len(a.told))):]
	return a
}

// look is a file, and what the words say of it, read once.
type look struct {
	d         *dev.Dev
	b         []byte
	beginning answer // all that is told from the beginning on
	last      api.Index
	fresh     bool
}

func lookAt(d *dev.Dev) *look {
	l := &look{d: d, b: d.All()}
	l.beginning = read(l.b, 0, words{})
	l.last, l.fresh = wordFresh(l.b)
	return l
}

// read is the answer of a reader that is read to its end.
func read(b []byte, at int, w words) answer {
	told, e := wordRead(b, at, w)
	if e == api.ErrEnd {
		e = api.OK
	}
	return answer{told: told, end: e}
}

// slow is P18.3 by the words.
func (l *look) slow(n int64) answer {
	switch {
	case !l.d.Up():
		return answer{e: api.ErrDown}
	case n < 0 || n >= int64(len(l.beginning.told)):
		return answer{e: api.ErrRange}
	}
	return l.beginning.passed(n)
}

// seek is P18.4 by the words, and whether the index leads there.
func (l *look) seek(n int64) (answer, bool) {
	if l.d.Up() && n >= 0 && l.fresh {
		if n >= l.last.Rows {
			return answer{e: api.ErrRange}, false
		}
		if k, w := l.leads(n); k >= 0 {
			one := l.last.Entries[k]
			return read(l.b, int(one.At), w).passed(n - one.Row), true
		}
	}
	return l.slow(n), false
}

// leads is the number of the entry by which the index leads to a row, and what is ahead of its frame; -1, if it does not lead there.
func (l *look) leads(n int64) (int, words) {
	k := -1
	for i, one := range l.last.Entries {
		if one.Row <= n {
			k = i
		}
	}
	if k < 0 {
		return -1, words{}
	}
	one := l.last.Entries[k]
	s, _, e := wordAt(l.b, int(one.Schema))
	f, _, e2 := wordAt(l.b, int(one.At))
	if e != api.OK || e2 != api.OK || s.Kind != 1 || f.Kind != 2 || f.Number != s.Number || f.Seq != int64(4*k) || f.First != one.Row {
		return -1, words{}
	}
	return k, words{frames: int64(4 * k), count: one.Row, begun: l.last.Entries[:k], all: []taken{{s, one.Schema}}}
}

// untouched runs a call, and asks that nothing of the file changes; how many bytes were read.
func (l *look) untouched(t *testing.T, call func()) int {
	t.Helper()
	before, counted := state(l.d), l.d.Counted()
	call()
	if state(l.d) != before {
		t.Fatalf("the file was changed")
	}
	return l.d.Counted() - counted
}

// hold holds a reader, or an error, against what the words say.
func hold(t *testing.T, n int64, r *reader.Reader, e api.Errno, want answer) {
	t.Helper()
	if e != want.e || (r == nil) != (e != api.OK) {
		t.Fatalf("of %d: a reader %v, %d, want %d", n, r != nil, e, want.e)
	}
	if r == nil {
		return
	}
	if r.Err() != api.OK {
		t.Fatalf("of %d: it has ended at once, for %d", n, r.Err())
	}
	got := answer{told: r.All(), end: r.Err()}
	if got.text() != want.text() {
		t.Fatalf("of %d: %s, want %s", n, brief(got.text()), brief(want.text()))
	}
	if one, is := r.Next(); is || toldText(one) != toldText(api.Told{}) || r.Err() != want.end {
		t.Fatalf("of %d: behind the end %s, %v, %d", n, brief(toldText(one)), is, r.Err())
	}
}

// ask holds Seek and Slow of a row against the words, and tells how many bytes Seek and the first Next behind it read, and whether the index leads there.
func (l *look) ask(t *testing.T, n int64) (int, bool) {
	t.Helper()
	l.untouched(t, func() {
		r, e := index.Slow(l.d, n)
		hold(t, n, r, e, l.slow(n))
	})
	want, leads := l.seek(n)
	l.untouched(t, func() {
		r, e := index.Seek(l.d, n)
		hold(t, n, r, e, want)
	})
	first := l.untouched(t, func() {
		if r, e := index.Seek(l.d, n); e == api.OK {
			one, is := r.Next()
			if is != (len(want.told) > 0) || is && toldText(one) != toldText(want.told[0]) {
				t.Fatalf("Seek(%d): %s, %v", n, brief(toldText(one)), is)
			}
		}
	})
	return first, leads
}

// askLast holds Last against the words.
func (l *look) askLast(t *testing.T) (api.Index, bool) {
	t.Helper()
	want, wantIs, wantE := l.last, l.fresh, api.OK
	if !l.d.Up() {
		want, wantIs, wantE = api.Index{}, false, api.ErrDown
	}
	var x api.Index
	var is bool
	read := l.untouched(t, func() {
		var e api.Errno
		x, is, e = index.Last(l.d)
		if e != wantE || is != wantIs || indexText(x) != indexText(want) {
			t.Fatalf("Last of %d bytes: %s, %v, %d, want %s, %v, %d", len(l.b), indexText(x), is, e, indexText(want), wantIs, wantE)
		}
	})
	if read > mostLast {
		t.Fatalf("Last of %d bytes read %d of them", len(l.b), read)
	}
	return x, is
}

func indexText(x api.Index) string {
	b := showNumbers(nil, x.At, x.Frames, x.Rows)
	for _, one := range x.Entries {
		b = showNumbers(append(b, ';'), one.At, one.Row, one.Schema)
	}
	return string(b)
}

// askBuild holds Build against the words: of a file of whole frames what these come to, else why it is not whole.
func (l *look) askBuild(t *testing.T) (api.Index, api.Errno) {
	t.Helper()
	want, wantE := l.build()
	var x api.Index
	var e api.Errno
	l.untouched(t, func() { x, e = index.Build(l.d) })
	if e != wantE || indexText(x) != indexText(want) {
		t.Fatalf("Build of %d bytes: %s, %d, want %s, %d", len(l.b), indexText(x), e, indexText(want), wantE)
	}
	return x, e
}

// build is P18.1 by the words.
func (l *look) build() (api.Index, api.Errno) {
	if !l.d.Up() {
		return api.Index{}, api.ErrDown
	}
	w, at := words{}, 0
	for {
		f, behind, e := wordAt(l.b, at)
		switch {
		case e == api.ErrEnd:
			return w.ownIndex(int64(at)).Index, api.OK
		case e != api.OK:
			return api.Index{}, e
		case !w.follows(f, int64(at)):
			return api.Index{}, api.ErrOrder
		}
		w.all = append(w.all, taken{f, int64(at)})
		at = behind
	}
}

// one is a row that is told: its number, its schema's, its values.
func one(at, number int64, l ...api.Value) api.Told {
	return api.Told{At: at, Number: number, Row: values(l...)}
}

// must asks Seek and Slow, of rows and an end told by hand.
func must(t *testing.T, d *dev.Dev, n int64, end api.Errno, told ...api.Told) {
	t.Helper()
	for _, call := range []func(*dev.Dev, int64) (*reader.Reader, api.Errno){index.Seek, index.Slow} {
		r, e := call(d, n)
		hold(t, n, r, e, answer{told: told, end: end})
	}
}

// mustRefuse asks Seek and Slow, of an error told by hand.
func mustRefuse(t *testing.T, d *dev.Dev, n int64, want api.Errno) {
	t.Helper()
	for _, call := range []func(*dev.Dev, int64) (*reader.Reader, api.Errno){index.Seek, index.Slow} {
		r, e := call(d, n)
		hold(t, n, r, e, answer{e: want})
	}
}
