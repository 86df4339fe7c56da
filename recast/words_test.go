package recast_test

import (
	"bytes"
	"math"
	"strconv"
	"strings"
	"testing"

	"gabion/api"
	"gabion/batch"
	"gabion/dev"
	"gabion/frame"
	"gabion/reader"
	"gabion/recast"
	"gabion/writer"
)

// The document's limits, told by hand.
const (
	maxRows  = 64
	maxQuota = 1048576
	theNaN   = 0x7ff8000000000000
)

func kind(k int, of ...api.Type) api.Type { return api.Type{Kind: k, Of: of} }

var (
	ofBool  = kind(api.Bool)
	ofInt   = kind(api.Int)
	ofFloat = kind(api.Float)
	ofText  = kind(api.Text)
	ofBytes = kind(api.Bytes)
)

func optOf(t api.Type) api.Type { return kind(api.Opt, t) }

func listOf(t api.Type) api.Type { return kind(api.List, t) }

func number(n int64) api.Value { return api.Value{Kind: api.Int, Int: n} }

func float(x float64) api.Value { return api.Value{Kind: api.Float, Float: x} }

func bits(b uint64) api.Value { return float(math.Float64frombits(b)) }

func text(s string) api.Value { return api.Value{Kind: api.Text, Text: s} }

func rawBytes(s string) api.Value { return api.Value{Kind: api.Bytes, Text: s} }

func opt(items ...api.Value) api.Value { return api.Value{Kind: api.Opt, Items: items} }

func list(items ...api.Value) api.Value { return api.Value{Kind: api.List, Items: items} }

func plain(name string, t api.Type) api.Column { return api.Column{Name: name, Type: t} }

func with(name string, t api.Type, v api.Value) api.Column {
	return api.Column{Name: name, Type: t, Has: true, Default: v}
}

func of(columns ...api.Column) api.Schema { return api.Schema{Columns: columns} }

func values(l ...api.Value) api.Row { return api.Row{Values: l} }

// rows is rows of one value each.
func rows(l ...api.Value) []api.Row {
	var all []api.Row
	for _, v := range l {
		all = append(all, values(v))
	}
	return all
}

// numbers is rows of one number each, reals of one float, letters of one text of n letters.
func numbers(l ...int64) []api.Row {
	var all []api.Row
	for _, n := range l {
		all = append(all, values(number(n)))
	}
	return all
}

func reals(l ...float64) []api.Row {
	var all []api.Row
	for _, x := range l {
		all = append(all, values(float(x)))
	}
	return all
}

func letters(l ...int) []api.Row {
	var all []api.Row
	for _, n := range l {
		all = append(all, values(text(strings.Repeat("x", n))))
	}
	return all
}

// upTo are the numbers 0 to n - 1.
func upTo(n int) []int64 {
	l := make([]int64, n)
	for i := range l {
		l[i] = int64(i)
	}
	return l
}

// odd is a number that is no float.
const odd = 1<<53 + 1

var (
	ints   = of(plain("a", ofInt))
	real   = of(plain("a", ofFloat))
	texts  = of(plain("a", ofText))
	two    = of(plain("a", ofInt), with("b", ofText, text("x")))
	floats = of(plain("f", ofFloat), with("l", listOf(optOf(ofFloat)), list(opt(bits(1<<63)), opt(), opt(bits(theNaN)))))
	nested = of(plain("a", listOf(optOf(listOf(ofBytes)))), with("b", optOf(ofText), opt(text("y"))), plain("c", ofBool))
	// padded is texts, each with 104 bytes more.
	padded = of(plain("a", ofText), with("pad", ofText, text(strings.Repeat("p", 103))))
)

// wide is a schema of n columns of unlike names.
func wide(n int) api.Schema {
	s := api.Schema{}
	for i := range n {
		s.Columns = append(s.Columns, plain("c"+strconv.Itoa(i), ofInt))
	}
	return s
}

// longSchema is a schema of n bytes, from 200 on.
func longSchema(n int) api.Schema {
	return of(with("a", ofBytes, rawBytes(string(mixedBytes(3, n-7, 9)))))
}

// mixed is the n-th of a row of well mixed words, the same ones in every run.
func mixed(n uint64) uint64 {
	z := (n + 1) * 0x9e3779b97f4a7c15
	z = (z ^ z>>30) * 0xbf58476d1ce4e5b9
	z = (z ^ z>>27) * 0x94d049bb133111eb
	return z ^ z>>31
}

// mixedBytes are n mixed bytes, about one of `every` of them zero; none, if that is 0.
func mixedBytes(seed uint64, n int, every uint64) []byte {
	b := make([]byte, n)
	for i := range b {
		w := mixed(seed<<24 + uint64(i))
		b[i] = byte(w%255) + 1
		if every > 0 && w>>32%every == 0 {
			b[i] = 0
		}
	}
	return b
}

func showNumbers(b []byte, numbers ...int64) []byte {
	for _, n := range numbers {
		b = strconv.AppendInt(append(b, ' '), n, 10)
	}
	return b
}

// showValue is all that a value holds, to the bit.
func showValue(b []byte, v api.Value) []byte {
	b = showNumbers(append(b, '{'), int64(v.Kind), v.Int, int64(math.Float64bits(v.Float)))
	b = strconv.AppendQuoteToASCII(append(b, ' '), v.Text)
	for _, item := range v.Items {
		b = showValue(b, item)
	}
	return append(b, '}')
}

func showRow(b []byte, r api.Row) []byte {
	b = append(b, '(')
	for _, v := range r.Values {
		b = showValue(b, v)
	}
	return append(b, ')')
}

// rowsText is all that rows hold, to the bit.
func rowsText(l []api.Row) string {
	var b []byte
	for _, r := range l {
		b = showRow(b, r)
	}
	return string(b)
}

// brief is the beginning of a text, as whole ones would hide what is wrong with them.
func brief(s string) string { return s[:min(len(s), 400)] }

// newDev is an empty file.
func newDev(quota int) *dev.Dev {
	d, e := dev.New(quota)
	if e != api.OK {
		panic("a quota that is refused")
	}
	return d
}

// devOf is a file of these bytes, all of them synced.
func devOf(quota int, b []byte) *dev.Dev {
	d := newDev(quota)
	if d.Tail(b) != api.OK {
		panic("bytes that are too many")
	}
	return d
}

// takeDown lets a file's power fail; its bytes stay.
func takeDown(d *dev.Dev) *dev.Dev {
	d.Sync()
	d.Fail(0, 0)
	if d.Cut(0) != api.ErrPower || d.Up() {
		panic("a file that is up")
	}
	return d
}

// step is an append under a schema.
type step struct {
	s api.Schema
	l []api.Row
}

// written is a file with these appends; it is not closed.
func written(steps ...step) *dev.Dev {
	d := newDev(maxQuota)
	w, _ := writer.Open(d, ints)
	for _, one := range steps {
		if w.Change(one.s) != api.OK || w.Append(one.l) != api.OK {
			panic("an append that is refused")
		}
	}
	return d
}

// closed closes a file, which writes an index.
func closed(d *dev.Dev) *dev.Dev {
	w, _ := writer.Open(d, ints)
	if wrote, e := w.Close(); !wrote || e != api.OK {
		panic("a close that writes no index")
	}
	return d
}

// single is a file of one schema, with a data frame for each row.
func single(s api.Schema, l []api.Row) *dev.Dev {
	var steps []step
	for i := range l {
		steps = append(steps, step{s, l[i : i+1]})
	}
	return written(steps...)
}

// placed is a frame, and where it stands: from its opening fence up to behind its closing one.
type placed struct {
	f        api.Frame
	from, to int
}

// framesOf are the frames of bytes that are frames one behind the other.
func framesOf(b []byte) []placed {
	var all []placed
	for at := 0; at < len(b); {
		size := bytes.IndexByte(b[at+1:], 0)
		f, e := frame.Decode(b[at+1 : at+1+size])
		if b[at] != 0 || e != api.OK {
			panic("bytes that are not frames one behind the other")
		}
		all = append(all, placed{f, at, at + size + 2})
		at += size + 2
	}
	return all
}

// shapeOf are the kinds of such frames, a letter each; of data with how many rows they have.
func shapeOf(d *dev.Dev) string {
	var l []string
	for _, one := range framesOf(d.All()) {
		switch one.f.Kind {
		case api.SchemaFrame:
			l = append(l, "S")
		case api.DataFrame:
			l = append(l, strconv.Itoa(one.f.Rows))
		case api.IndexFrame:
			l = append(l, "X")
		}
	}
	return strings.Join(l, " ")
}

// dataOf are the data frames of a file.
func dataOf(d *dev.Dev) []placed {
	var l []placed
	for _, one := range framesOf(d.All()) {
		if one.f.Kind == api.DataFrame {
			l = append(l, one)
		}
	}
	return l
}

// asRead are the rows of a file that can be read under a schema, and why reading ends; nothing of the file changes.
func asRead(d *dev.Dev, s api.Schema) ([]api.Row, api.Errno) {
	r, e := reader.As(d.Clone(), s, nil)
	if e != api.OK {
		panic("a schema that may not be")
	}
	var l []api.Row
	for _, one := range r.All() {
		if one.E == api.OK {
			l = append(l, one.Row)
		}
	}
	return l, r.Err()
}

// rawOf are the rows of a file that is whole, as they were written; nothing of the file changes.
func rawOf(d *dev.Dev) []api.Row {
	r := reader.Raw(d.Clone())
	var l []api.Row
	for _, one := range r.All() {
		l = append(l, one.Row)
	}
	if r.Err() != api.OK {
		panic("a file that is not whole")
	}
	return l
}

// cut is a block by the words, and how many rows were told when it is appended; all of them, and reading has ended, if it is the last one.
type cut struct {
	l     []api.Row
	ahead int
	last  bool
}

// cutsOf are the blocks of rows that were told.
func cutsOf(s api.Schema, told []api.Told, most int) []cut {
	var good []int
	for k, one := range told {
		if one.E == api.OK {
			good = append(good, k)
		}
	}
	var cuts []cut
	for len(good) > 0 {
		var l []api.Row
		for _, k := range good {
			longer := append(l, told[k].Row)
			if _, e := batch.Size(s, longer); len(l) > 0 && (e != api.OK || len(l) == most) {
				break
			}
			l = longer
		}
		good = good[len(l):]
		one := cut{l, len(told), true}
		if len(good) > 0 {
			one.ahead, one.last = good[0]+1, false
		}
		cuts = append(cuts, one)
	}
	return cuts
}

// leftOf are how many rows of these are left.
func leftOf(told []api.Told) int64 {
	n := int64(0)
	for _, one := range told {
		if one.E != api.OK {
			n++
		}
	}
	return n
}

// readOn reads so many rows of a file, and its end, if that is asked for: so much of it is counted as read.
func readOn(from *dev.Dev, s api.Schema, n int, end bool) {
	r, _ := reader.As(from, s, nil)
	for range n {
		if _, is := r.Next(); !is {
			panic("too few rows")
		}
	}
	if !end {
		return
	}
	if _, is := r.Next(); is {
		panic("too many rows")
	}
}

// byWords is Recast by the words, of two files that are not one: first what would be told, then its blocks, then what becomes of each.
func byWords(from, to *dev.Dev, s api.Schema, rows int) (recast.Counts, api.Errno) {
	if rows <= 0 || rows >= maxRows+1 {
		return recast.Counts{}, 1
	}
	w, e := writer.Open(to, s)
	if e != api.OK {
		return recast.Counts{}, e
	}
	r, _ := reader.As(from.Clone(), s, nil)
	told := r.All()
	taken := int64(0)
	for _, one := range cutsOf(s, told, rows) {
		if e := w.Append(one.l); e != api.OK {
			readOn(from, s, one.ahead, one.last)
			return recast.Counts{Taken: taken, Left: leftOf(told[:one.ahead])}, e
		}
		taken += int64(len(one.l))
	}
	readOn(from, s, len(told), true)
	_, e = w.Close()
	if r.Err() != api.OK {
		e = r.Err()
	}
	return recast.Counts{Taken: taken, Left: leftOf(told)}, e
}

// state is all that a file tells, and behind how many deeds its power is bound to fail, with how many bytes left then.
func state(d *dev.Dev) string {
	b := showNumbers(d.All(), int64(d.Len()), int64(d.Quota()), int64(d.Synced()), int64(d.Counted()), int64(d.Written()))
	b = strconv.AppendBool(append(b, ' '), d.Up())
	c := d.Clone()
	n := int64(0)
	for n < 800 && c.Cut(c.Len()) == api.OK {
		n++
	}
	return string(showNumbers(b, n, int64(c.Len())))
}

// doRecast makes the call, with a schema that has room behind its lists, and holds it against what the words say: the answer, and how the two files stand then. But for how much was read of it `from` stays.
func doRecast(t *testing.T, from, to *dev.Dev, s api.Schema, rows int) (recast.Counts, api.Errno) {
	t.Helper()
	twinFrom, twinTo := from.Clone(), to.Clone()
	want, wantE := byWords(twinFrom, twinTo, s, rows)
	given := roomySchema(s)
	was, held := openedSchema(given), from.All()
	got, e := recast.Recast(from, to, given, rows)
	if openedSchema(given) != was {
		t.Fatalf("the schema was changed: %s", brief(was))
	}
	spoilSchema(given)
	if got != want || e != wantE {
		t.Fatalf("Recast by %d: %+v, %d, want %+v, %d", rows, got, e, want, wantE)
	}
	if !bytes.Equal(from.All(), held) {
		t.Fatalf("the bytes of the file that is read were changed")
	}
	if a, b := state(from), state(twinFrom); a != b {
		t.Fatalf("the file that is read: %.400q, want %.400q", a, b)
	}
	if a, b := state(to), state(twinTo); a != b {
		t.Fatalf("the file that is written: %.400q, want %.400q", a, b)
	}
	return got, e
}

// mustRecast is doRecast, with the answer told by hand.
func mustRecast(t *testing.T, from, to *dev.Dev, s api.Schema, rows int, taken, left int64, want api.Errno) {
	t.Helper()
	got, e := doRecast(t, from, to, s, rows)
	if got != (recast.Counts{Taken: taken, Left: left}) || e != want {
		t.Fatalf("Recast by %d: %+v, %d, want %d, %d, %d by hand", rows, got, e, taken, left, want)
	}
}

// mustHold asks that a file has just these frames, and just these rows, as they were written.
func mustHold(t *testing.T, d *dev.Dev, shape string, l []api.Row) {
	t.Helper()
	if got := shapeOf(d); got != shape {
		t.Fatalf("the frames: %s, want %s", got, shape)
	}
	if got := rawOf(d); rowsText(got) != rowsText(l) {
		t.Fatalf("%d rows, want %d: %s, want %s", len(got), len(l), brief(rowsText(got)), brief(rowsText(l)))
	}
}
