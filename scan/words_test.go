package scan_test

import (
	"iter"
	"math"
	"slices"
	"strconv"
	"strings"
	"testing"

	"gabion/api"
	"gabion/dev"
	"gabion/frame"
	"gabion/scan"
)

// The document's limits, told by hand.
const (
	maxFrame  = 2200
	maxNumber = int64(1) << 31
	maxSeq    = int64(1) << 40
	theNaN    = 0x7ff8000000000000
)

var minusZero = math.Copysign(0, -1)

func kind(k int, of ...api.Type) api.Type { return api.Type{Kind: k, Of: of} }

var (
	ofBool  = kind(api.Bool)
	ofInt   = kind(api.Int)
	ofFloat = kind(api.Float)
	ofText  = kind(api.Text)
	ofBytes = kind(api.Bytes)
)

func optOf(t api.Type) api.Type { return kind(api.Opt, t) }

func listOf(t api.Type) api.Type { return kind(api.List, t) }

func number(n int64) api.Value { return api.Value{Kind: api.Int, Int: n} }

func float(x float64) api.Value { return api.Value{Kind: api.Float, Float: x} }

func nan(bits uint64) api.Value { return float(math.Float64frombits(bits)) }

func text(s string) api.Value { return api.Value{Kind: api.Text, Text: s} }

func opt(items ...api.Value) api.Value { return api.Value{Kind: api.Opt, Items: items} }

func list(items ...api.Value) api.Value { return api.Value{Kind: api.List, Items: items} }

func plain(name string, t api.Type) api.Column { return api.Column{Name: name, Type: t} }

func with(name string, t api.Type, v api.Value) api.Column {
	return api.Column{Name: name, Type: t, Has: true, Default: v}
}

func of(columns ...api.Column) api.Schema { return api.Schema{Columns: columns} }

var (
	ints   = of(plain("a", ofInt))
	texts  = of(plain("a", ofText))
	pairs  = of(plain("a", ofInt), with("b", ofText, text("x")))
	floats = of(with("f", ofFloat, nan(theNaN)), with("l", listOf(optOf(ofFloat)), list(opt(float(minusZero)), opt(), opt(nan(theNaN)))))
	nested = of(plain("a", listOf(optOf(listOf(ofBytes)))), with("b", optOf(ofText), opt(text("y"))), plain("c", ofBool))
)

// longSchema is a schema of n bytes, from 200 on.
func longSchema(n int) api.Schema {
	return of(with("a", ofBytes, api.Value{Kind: api.Bytes, Text: strings.Repeat("x", n-7)}))
}

// wide is a schema of n columns of unlike names.
func wide(n int) api.Schema {
	s := api.Schema{}
	for i := range n {
		s.Columns = append(s.Columns, plain("c"+strconv.Itoa(i), ofInt))
	}
	return s
}

// wrongSchemas may not be: at least one for each of schema.Check's errors.
func wrongSchemas() []api.Schema {
	return []api.Schema{
		{}, wide(17), of(plain("", ofInt)), of(plain("A", ofInt)), of(plain("a", ofInt), plain("a", ofInt)), of(plain("a", kind(0))), of(plain("a", kind(8))), of(plain("a", kind(api.List))), of(plain("a", kind(api.Int, ofInt))),
		of(plain("a", listOf(listOf(listOf(listOf(ofInt)))))), of(with("a", ofText, number(5))), of(with("a", ofBool, api.Value{Kind: api.Bool, Int: 2})), of(with("a", ofText, text("\xff"))), of(with("a", ofText, text(strings.Repeat("a", 1025)))),
		of(with("a", listOf(ofInt), list(slices.Repeat([]api.Value{number(1)}, 257)...))), of(api.Column{Name: "a", Type: ofInt, Default: number(1)}), longSchema(1025), of(plain("a", ofInt), plain("b", kind(9))),
	}
}

func schemaFrame(number int64, s api.Schema) api.Frame {
	return api.Frame{Kind: api.SchemaFrame, Number: number, Schema: s}
}

func dataFrame(number, seq, first int64, rows int, block string) api.Frame {
	return api.Frame{Kind: api.DataFrame, Number: number, Seq: seq, First: first, Rows: rows, Block: []byte(block)}
}

func indexFrame(at, frames, rows int64, entries ...api.Entry) api.Frame {
	return api.Frame{Kind: api.IndexFrame, Index: api.Index{At: at, Frames: frames, Rows: rows, Entries: entries}}
}

func entry(at, row, schema int64) api.Entry { return api.Entry{At: at, Row: row, Schema: schema} }

// mixed is the n-th of a row of well mixed words, the same ones in every run.
func mixed(n uint64) uint64 {
	z := (n + 1) * 0x9e3779b97f4a7c15
	z = (z ^ z>>30) * 0xbf58476d1ce4e5b9
	z = (z ^ z>>27) * 0x94d049bb133111eb
	return z ^ z>>31
}

// mixedBytes are n mixed bytes, about one of `every` of them zero; none, if that is 0.
func mixedBytes(seed uint64, n int, every uint64) []byte {
	b := make([]byte, n)
	for i := range b {
		w := mixed(seed<<24 + uint64(i))
		b[i] = byte(w%255) + 1
		if every > 0 && w>>32%every == 0 {
			b[i] = 0
		}
	}
	return b
}

func fixedBits(x float64) uint64 {
	if x != x {
		return theNaN
	}
	return math.Float64bits(x)
}

func showValue(b []byte, v api.Value, bits func(x float64) uint64) []byte {
	b = strconv.AppendInt(append(b, '{'), int64(v.Kind), 10)
	b = strconv.AppendInt(append(b, ' '), v.Int, 10)
	b = strconv.AppendUint(append(b, ' '), bits(v.Float), 16)
	b = strconv.AppendQuoteToASCII(append(b, ' '), v.Text)
	for _, item := range v.Items {
		b = showValue(b, item, bits)
	}
	return append(b, '}')
}

func showType(b []byte, t api.Type) []byte {
	b = strconv.AppendInt(append(b, '<'), int64(t.Kind), 10)
	for _, inner := range t.Of {
		b = showType(b, inner)
	}
	return append(b, '>')
}

func showSchema(b []byte, s api.Schema, bits func(x float64) uint64) []byte {
	for _, c := range s.Columns {
		b = showType(strconv.AppendQuoteToASCII(append(b, " ["...), c.Name), c.Type)
		b = append(showValue(strconv.AppendBool(b, c.Has), c.Default, bits), ']')
	}
	return b
}

// exact is all that a schema holds, to the bit; fixed is that with the one NaN.
func exact(s api.Schema) string { return string(showSchema(nil, s, math.Float64bits)) }

func fixed(s api.Schema) string { return string(showSchema(nil, s, fixedBits)) }

func showNumbers(b []byte, numbers ...int64) []byte {
	for _, n := range numbers {
		b = strconv.AppendInt(append(b, ' '), n, 10)
	}
	return b
}

// frameText is all that a frame holds.
func frameText(f api.Frame) string {
	b := showNumbers(nil, int64(f.Kind), f.Number, f.Seq, f.First, int64(f.Rows), f.Index.At, f.Index.Frames, f.Index.Rows)
	b = showSchema(b, f.Schema, math.Float64bits)
	for _, one := range f.Index.Entries {
		b = showNumbers(append(b, " -"...), one.At, one.Row, one.Schema)
	}
	return string(strconv.AppendQuoteToASCII(append(b, ' '), string(f.Block)))
}

// brief is the beginning of a text, as whole ones would hide what is wrong with them.
func brief(s string) string { return s[:min(len(s), 400)] }

// taken is a frame that a walk took, and where it stands.
type taken struct {
	f  api.Frame
	at int64
}

// words is a walk by the words of DOC.md ('The file') and of P14.3: what it began with, and all frames that it took; whatever is asked is told anew from these.
type words struct {
	frames, rows int64       // that it began with: of a Resume
	begun        []api.Entry // likewise
	all          []taken     // of a Resume the first is its schema's
}

// of goes through the frames of a kind.
func (w words) of(kind int) iter.Seq[*taken] {
	return func(yield func(one *taken) bool) {
		for i := range w.all {
			if w.all[i].f.Kind == kind && !yield(&w.all[i]) {
				return
			}
		}
	}
}

func (w words) Frames() int64 {
	n := w.frames
	for range w.of(2) {
		n++
	}
	return n
}

func (w words) Rows() int64 {
	n := w.rows
	for one := range w.of(2) {
		n += int64(one.f.Rows)
	}
	return n
}

func (w words) Number() int64 {
	n := int64(-1)
	for one := range w.of(1) {
		n = max(n, one.f.Number)
	}
	return n
}

func (w words) Since() int {
	n := 0
	for i := len(w.all) - 1; i >= 0 && w.all[i].f.Kind != 1; i-- {
		if w.all[i].f.Kind == 2 {
			n++
		}
	}
	return n
}

// last is the last schema frame of a number.
func (w words) last(number int64) (taken, bool) {
	told := &taken{}
	for one := range w.of(1) {
		if one.f.Number == number {
			told = one
		}
	}
	return *told, told.f.Kind == 1
}

func (w words) Schema(number int64) (api.Schema, bool) {
	one, is := w.last(number)
	return one.f.Schema, is
}

func (w words) Place(number int64) (int, bool) {
	one, is := w.last(number)
	return int(one.at), is
}

func (w words) Entries() []api.Entry {
	l := slices.Clone(w.begun)
	at := int64(0)
	for i := range w.all {
		one := &w.all[i]
		switch {
		case one.f.Kind == 1:
			at = one.at
		case one.f.Kind == 2 && one.f.Seq%4 == 0 && len(l) < 64:
			l = append(l, entry(one.at, one.f.First, at))
		}
	}
	return l
}

func (w words) Closed() bool { return len(w.all) > 0 && w.all[len(w.all)-1].f.Kind == 3 }

func (w words) follows(f api.Frame, at int64) bool {
	switch f.Kind {
	case 1:
		greatest, is := w.last(w.Number())
		again := is && f.Number == greatest.f.Number && fixed(f.Schema) == fixed(greatest.f.Schema)
		return again || is && f.Number == greatest.f.Number+1 || !is && f.Number == 0
	case 2:
		return w.Number() >= 0 && f.Number == w.Number() && f.Seq == w.Frames() && f.First == w.Rows()
	case 3:
		return f.Index.At == at && f.Index.Frames == w.Frames() && f.Index.Rows == w.Rows() && slices.Equal(f.Index.Entries, w.Entries())
	}
	return false
}

// next is P14.2 by the words.
func (w *words) next(f api.Frame, at int) api.Errno {
	if _, e := frame.Encode(f); e != api.OK || at < 0 || int64(at) >= maxSeq || !w.follows(f, int64(at)) {
		return api.ErrOrder
	}
	w.all = append(slices.Clip(w.all), taken{f, int64(at)})
	return api.OK
}

// resumed is P14.4 by the words, of arguments of which there is a walk.
func resumed(x api.Index, k int, s api.Numbered) words {
	at := x.Entries[k]
	return words{frames: 4 * int64(k), rows: at.Row, begun: slices.Clone(x.Entries[:k]), all: []taken{{schemaFrame(s.Number, s.Schema), at.Schema}}}
}

// teller is what a Walk tells, and what the words tell of it.
type teller interface {
	Frames() int64
	Rows() int64
	Number() int64
	Since() int
	Schema(number int64) (api.Schema, bool)
	Place(number int64) (int, bool)
	Entries() []api.Entry
	Closed() bool
}

// askedNumbers are those whose Schema and Place are asked, of a walk with that greatest one: also such that there are not.
func askedNumbers(greatest int64) []int64 {
	l := []int64{math.MinInt64, -2, -1, 0, 1, maxNumber - 1, maxNumber, math.MaxInt64}
	for n := max(0, greatest-9); n <= greatest+2; n++ {
		l = append(l, n)
	}
	return l
}

// standing is all that a walk tells, its schemas by a text of them.
func standing(w teller, greatest int64, show func(s api.Schema) string) string {
	b := showNumbers(nil, w.Frames(), w.Rows(), w.Number(), int64(w.Since()))
	b = strconv.AppendBool(append(b, ' '), w.Closed())
	for _, one := range w.Entries() {
		b = showNumbers(append(b, " -"...), one.At, one.Row, one.Schema)
	}
	for _, n := range askedNumbers(greatest) {
		s, known := w.Schema(n)
		at, placed := w.Place(n)
		b = strconv.AppendBool(append(b, ' '), known)
		b = append(append(b, ' '), show(s)...)
		b = strconv.AppendBool(append(b, ' '), placed)
		b = showNumbers(b, int64(at))
	}
	return string(b)
}

// pair is a Walk, and what the words say of it.
type pair struct {
	w     *scan.Walk
	words words
}

func fresh() *pair { return &pair{w: scan.New()} }

func (p *pair) clone() *pair { return &pair{p.w.Clone(), p.words} }

// stands holds all that the Walk tells against the words.
func (p *pair) stands(t *testing.T) {
	t.Helper()
	greatest := p.words.Number()
	got, want := standing(p.w, greatest, exact), standing(p.words, greatest, fixed)
	if got != want {
		t.Fatalf("behind %d frames: %s, want %s", len(p.words.all), brief(got), brief(want))
	}
}

// next holds Next's answer against the words.
func (p *pair) next(t *testing.T, f api.Frame, at int) api.Errno {
	t.Helper()
	want := p.words.next(f, at)
	if e := p.w.Next(f, at); e != want {
		t.Fatalf("behind %d frames: Next(%s, %d): %d, want %d", len(p.words.all), brief(frameText(f)), at, e, want)
	}
	return want
}

// must is next, with the answer told by hand; all stands as the words say behind it.
func (p *pair) must(t *testing.T, f api.Frame, at int, want api.Errno) {
	t.Helper()
	if e := p.next(t, f, at); e != want {
		t.Fatalf("behind %d frames: Next(%s, %d): %d, want %d by hand", len(p.words.all), brief(frameText(f)), at, e, want)
	}
	p.stands(t)
}

// own are frames that follow those of the walk: data, and its index at a place.
func (w words) ownData(rows int, block string) api.Frame {
	return dataFrame(w.Number(), w.Frames(), w.Rows(), rows, block)
}

func (w words) ownIndex(at int64) api.Frame {
	return indexFrame(at, w.Frames(), w.Rows(), w.Entries()...)
}

// laid is a file that is made frame by frame, and what the words say of it.
type laid struct {
	words
	b []byte
}

// lay lays a frame's bytes behind the others, whether it follows them or not.
func (l *laid) lay(f api.Frame) {
	b, e := frame.Encode(f)
	if e != api.OK {
		panic("a frame that may not be: " + frameText(f))
	}
	l.all = append(l.all, taken{f, int64(len(l.b))})
	l.b = append(l.b, b...)
}

func (l *laid) schema(n int64, s api.Schema) { l.lay(schemaFrame(n, s)) }

func (l *laid) data(rows int, block string) { l.lay(l.ownData(rows, block)) }

func (l *laid) index() { l.lay(l.ownIndex(int64(len(l.b)))) }

// behind is the place behind the k-th frame.
func (l *laid) behind(k int) int {
	if k+1 < len(l.all) {
		return int(l.all[k+1].at)
	}
	return len(l.b)
}

// device is a file of these bytes.
func device(b []byte) *dev.Dev {
	d, _ := dev.New(api.MaxQuota)
	if d.Tail(b) != api.OK {
		panic("a file that is too long")
	}
	return d
}

// takeDown lets the file's power fail; its bytes stay.
func takeDown(d *dev.Dev) {
	d.Sync()
	d.Fail(0, 0)
	if d.Write([]byte{7}) != api.ErrPower || d.Up() {
		panic("a file that is up")
	}
}

// wordAt is P14.1 by the words, of a file that is up.
func wordAt(b []byte, at int) (api.Frame, int, api.Errno) {
	switch {
	case at < 0 || at > len(b):
		return api.Frame{}, 0, api.ErrRange
	case at == len(b):
		return api.Frame{}, 0, api.ErrEnd
	case b[at] != 0:
		return api.Frame{}, 0, api.ErrFence
	}
	read := b[at:min(len(b), at+2202)]
	for i := 1; i < len(read); i++ {
		if read[i] != 0 {
			continue
		}
		if i == 1 {
			return api.Frame{}, 0, api.ErrEmpty
		}
		f, e := frame.Decode(read[1:i])
		if e != api.OK {
			return api.Frame{}, 0, e
		}
		return f, at + i + 1, api.OK
	}
	if len(read) == 2202 {
		return api.Frame{}, 0, api.ErrLong
	}
	return api.Frame{}, 0, api.ErrTorn
}

// wordWhole is P14.5 by the words, of a file that is up; and how many bytes are read.
func wordWhole(b []byte) (w words, at int, e api.Errno, read int) {
	for {
		f, behind, e := wordAt(b, at)
		read += min(len(b)-at, 2202)
		if e == api.OK {
			e = w.next(f, at)
		}
		if e != api.OK {
			return w, at, e, read
		}
		at = behind
	}
}
