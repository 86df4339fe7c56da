package reader_test

import (
	"slices"
	"strings"
	"testing"

	"gabion/api"
	"gabion/batch"
	"gabion/dev"
	"gabion/reader"
	"gabion/scan"
)

// ending is bytes behind a whole file for which a reader ends, and why.
type ending struct {
	b    []byte
	want api.Errno
}

// atEndings are bytes of which scan.At has an error, each that it may have, but ErrDown, ErrRange and ErrEnd.
func atEndings() []ending {
	return []ending{
		{row(5, 1), api.ErrFence}, {row(5, 5000), api.ErrFence}, {[]byte{5, 0}, api.ErrFence}, {encoded(schemaFrame(0, ints))[1:], api.ErrFence},
		{row(0, 2), api.ErrEmpty}, {row(0, 5000), api.ErrEmpty}, {[]byte{0, 0, 5, 0}, api.ErrEmpty},
		{row(0, 1), api.ErrTorn}, {[]byte{0, 5}, api.ErrTorn}, {join(row(0, 1), row(5, maxFrame)), api.ErrTorn},
		{fenced(string(row(1, maxFrame+1))), api.ErrLong}, {join(row(0, 1), row(5, 9000)), api.ErrLong}, {fenced(runOf("\x01\x00" + string(row(1, 1025)))), api.ErrLong},
		{fenced("\x01"), api.ErrShort}, {fenced("\x05"), api.ErrShort}, {fenced("\x05\x01\x02\x03\x04"), api.ErrShort}, {fenced(runOf("\x01\x00")), api.ErrShort},
		{fenced("\xff" + string(row(7, 254)) + "\x01"), api.ErrForm}, {fenced(runOf("\x02\x80\x00")), api.ErrForm}, {fenced(runOf("\x02\x00\x00\x00\x00")), api.ErrForm}, {fenced(runOf("\x02\x00\x00\x00\x41")), api.ErrForm}, {fenced(runOf("\x03\x00\x00\x00\x00\x00")), api.ErrForm},
		{fenced("\x06\x01\x02\x03\x04\x05"), api.ErrSum}, {fenced(string(row(1, maxFrame))), api.ErrSum},
		{fenced(runOf("\x04")), api.ErrKind}, {fenced(runOf("\x00")), api.ErrKind}, {fenced(runOf("\x01\x00\x01\x01a\x08")), api.ErrKind},
		{fenced(runOf("\x01\x00\x00")), api.ErrEmpty}, {fenced(runOf("\x01\x00\x11")), api.ErrMany}, {fenced(runOf("\x01\x00\x01\x00")), api.ErrName}, {fenced(runOf("\x01\x00\x02\x01a\x02\x00\x01a")), api.ErrTwice},
		{fenced(runOf("\x01\x00\x01\x01a\x07\x07\x07\x07")), api.ErrDeep}, {fenced(runOf("\x01\x00\x01\x01a\x04\x01\x01\xff")), api.ErrUtf},
	}
}

// orderEndings are frames that don't follow a file's.
func orderEndings(l *laid) []ending {
	n, at := l.Number(), int64(len(l.b))
	frames := []api.Frame{
		schemaFrame(n+2, ints), schemaFrame(n+1<<30, ints), dataFrame(n+1, l.Frames(), l.Rows(), 1, "\x00\x02"), dataFrame(max(0, n), l.Frames()+1, l.Rows(), 1, "\x00\x02"), dataFrame(max(0, n), l.Frames(), l.Rows()+1, 1, "\x00\x02"),
		l.ownIndex(at + 1), indexFrame(at, l.Frames()+1, l.Rows(), l.Entries()...), indexFrame(at, l.Frames(), l.Rows()+1, l.Entries()...), indexFrame(at, l.Frames(), l.Rows(), append(l.Entries(), entry(0, 0, 0))...),
	}
	if n >= 0 {
		frames = append(frames, schemaFrame(n, longSchema(300)))
	}
	if n > 0 {
		frames = append(frames, schemaFrame(n-1, ints), dataFrame(n-1, l.Frames(), l.Rows(), 1, "\x00\x02"))
	}
	var told []ending
	for _, f := range frames {
		told = append(told, ending{encoded(f), api.ErrOrder})
	}
	return told
}

// wrongBlock is a block that is not so many rows of a schema, and why.
type wrongBlock struct {
	s    api.Schema
	rows int
	b    string
	want api.Errno
}

// wrongBlocks are some for each error of batch.Unpack that a frame's block may have: block.Unpack's, row.Decode's, and bytes left.
func wrongBlocks() []wrongBlock {
	x := strings.Repeat("\x02", 2049)
	return []wrongBlock{
		{ints, 1, "", api.ErrEmpty}, {ints, 1, "\x02", api.ErrForm}, {ints, 1, "\xff\x02", api.ErrForm}, {ints, 64, "\x00" + x, api.ErrLong}, {ints, 1, "\x01\x82\x20" + x, api.ErrLong}, {ints, 1, "\x01\x02", api.ErrShort}, {ints, 1, "\x01\x00", api.ErrForm}, {ints, 1, "\x01\x02\x02\x09\x02", api.ErrForm},
		{ints, 1, "\x00", api.ErrShort}, {ints, 1, "\x01", api.ErrShort}, {ints, 2, "\x00\x02", api.ErrShort}, {ints, 64, "\x00\x02", api.ErrShort}, {ints, 1, "\x00\x80", api.ErrShort}, {ints, 1, "\x00\x80\x00", api.ErrForm},
		{ints, 1, "\x00\x02\x02", api.ErrForm}, {ints, 63, "\x00" + x[:64], api.ErrForm}, {ints, 1, "\x00" + x[:2048], api.ErrForm},
		{texts, 1, "\x00\x01\xff", api.ErrUtf}, {texts, 1, "\x00\x81\x08", api.ErrLong}, {texts, 2, "\x00\x01a\x05a", api.ErrShort},
		{of(plain("a", ofBool)), 2, "\x00\x01\x02", api.ErrForm}, {of(plain("a", listOf(ofBool))), 1, "\x00\x81\x02", api.ErrMany}, {of(plain("a", ofFloat)), 1, "\x00\xff\xff\xff\xff\xff\xff\xff\xff", api.ErrForm},
		{of(plain("a", ofBytes), plain("b", ofBytes)), 1, "\x00\xd8\x04" + x[:600] + "\xd8\x04" + x[:600], api.ErrLong},
	}
}

// ends asks, of a file that a reader ends for an error behind, told by hand: that all rows of the frames ahead are told, then none, that the error stays, and that nothing more is read, whatever is done to the file.
func ends(t *testing.T, l *laid, b []byte, want api.Errno) {
	t.Helper()
	n := int(l.Rows())
	for _, x := range []struct {
		p    *pair
		rows int
	}{{raw(t, device(b)), n}, {as(t, device(b), of(with("a", ofInt, number(5)))), n}, {from(t, device(b), 0, n/2, scan.New(), words{}), n - n/2}} {
		if told := x.p.toEnd(t); len(told) != x.rows || x.p.r.Err() != want {
			t.Fatalf("%d rows of %d, %d, want %d", len(told), x.rows, x.p.r.Err(), want)
		}
		staysEnded(t, x.p)
	}
	p := raw(t, device(b))
	if told := p.all(t); len(told) != n || p.r.Err() != want {
		t.Fatalf("All: %d rows of %d, %d, want %d", len(told), n, p.r.Err(), want)
	}
	staysEnded(t, p)
}

// staysEnded asks that a reader which has ended stays so for the same error: of a file cut back to what is whole, or longer, or down and up again.
func staysEnded(t *testing.T, p *pair) {
	t.Helper()
	e := p.r.Err()
	for _, change := range []func(){
		func() { p.d.Cut(p.words.at) },
		func() { p.d.Tail(encoded(p.words.ownIndex(int64(p.d.Len())))) },
		func() { p.d.Tail(encoded(schemaFrame(p.words.Number()+1, ints))) },
		func() { p.d.Cut(0) },
		func() { takeDown(p.d) },
		func() { p.d.Start() },
	} {
		change()
		p.over(t)
		if p.r.Err() != e {
			t.Fatalf("it ended for %d, and then for %d", e, p.r.Err())
		}
	}
}

// begun are files that a reader ends behind: without rows, at once, and with some.
func begun() []*laid {
	files := wholeFiles()
	return []*laid{files[0], files[1], files[4], files[5], files[7], longFile(9)}
}

// TestNextAtErrors: P16.2, P16.3: each error of scan.At, behind some rows and at once; frames behind it are not read.
func TestNextAtErrors(t *testing.T) {
	for _, l := range begun() {
		for _, x := range atEndings() {
			if _, _, e := scan.At(device(join(l.b, x.b)), len(l.b)); e != x.want {
				t.Fatalf("scan.At of %.20x: %d, want %d", x.b, e, x.want)
			}
			ends(t, l, join(l.b, x.b), x.want)
			if x.want != api.ErrTorn {
				ends(t, l, join(l.b, x.b, row(5, 1), encoded(l.ownIndex(int64(len(l.b))))), x.want)
			}
		}
		ends(t, l, l.b, api.OK)
	}
}

// TestNextOrder: P16.2, P16.3: frames that don't follow, of each kind, behind some rows and at once.
func TestNextOrder(t *testing.T) {
	for _, l := range begun() {
		for _, x := range orderEndings(l) {
			ends(t, l, join(l.b, x.b), x.want)
			ends(t, l, join(l.b, x.b, encoded(l.ownIndex(int64(len(l.b))))), x.want)
		}
	}
	l := &laid{}
	l.schema(0, ints)
	l.data(numbers(1))
	raw(t, device(join(l.b, encoded(schemaFrame(1, texts)), encoded(dataFrame(0, 1, 1, 1, "\x00\x02"))))).must(t, api.ErrOrder, one(0, 0, number(1)))
}

// TestNextUnpack: P16.2, P16.3: each error of batch.Unpack, behind some rows and at once: no row of that frame is told, also where its first ones are right.
func TestNextUnpack(t *testing.T) {
	for _, start := range begun() {
		for _, x := range wrongBlocks() {
			if _, e := batch.Unpack(x.s, []byte(x.b), x.rows); e != x.want {
				t.Fatalf("batch.Unpack of %d rows of %.20x: %d, want %d", x.rows, x.b, e, x.want)
			}
			l := &laid{words{all: slices.Clone(start.all)}, slices.Clone(start.b)}
			l.schema(l.Number()+1, x.s)
			b := join(l.b, encoded(l.ownData(x.rows, x.b)))
			ends(t, start, b, x.want)
			next := l.ownData(x.rows, x.b)
			next.Seq, next.First = next.Seq+1, next.First+int64(x.rows)
			ends(t, start, join(b, encoded(next)), x.want)
		}
	}
}

// TestNextUnpackUnder: P16.2: a block is unpacked under the schema that it was written under, whatever the reader's is; whether it can be read under that is asked behind it.
func TestNextUnpackUnder(t *testing.T) {
	l := &laid{}
	l.schema(0, ints)
	l.data(numbers(1))
	l.lay(l.ownData(1, "\x00"))
	d := device(l.b)
	as(t, d, texts).must(t, api.ErrShort, refused(0, 0, api.ErrKind))
	as(t, d, of(plain("none", ofInt))).must(t, api.ErrShort, refused(0, 0, api.ErrMissing))
	as(t, d, of(with("none", ofInt, number(4)))).must(t, api.ErrShort, one(0, 0, number(4)))
}

// TestNextEndsOnce: P16.2, P16.3: behind the end of a whole file the reader has ended: what is written then is read by another one alone.
func TestNextEndsOnce(t *testing.T) {
	for _, l := range wholeFiles() {
		d := device(l.b)
		p, q := raw(t, d), as(t, d, ints)
		n := len(p.all(t))
		q.toEnd(t)
		d.Tail(encoded(schemaFrame(l.Number()+1, ints)))
		d.Tail(encoded(dataFrame(l.Number()+1, l.Frames(), l.Rows(), 1, "\x00\x02")))
		p.over(t)
		q.over(t)
		if p.r.Err() != api.OK || q.r.Err() != api.OK {
			t.Fatalf("behind the end: %d, %d", p.r.Err(), q.r.Err())
		}
		if told := raw(t, d).toEnd(t); len(told) != n+1 {
			t.Fatalf("%d rows, want %d", len(told), n+1)
		}
	}
}

// TestNextGoesOn: P16.2: what is written ahead of the end is read, though the file ended there when the last row was told.
func TestNextGoesOn(t *testing.T) {
	d := device(nil)
	p := raw(t, d)
	l := &laid{}
	l.schema(0, ints)
	for n := range int64(20) {
		l.data(numbers(n, -n))
		d.Tail(l.b[d.Len():])
		for _, v := range []int64{n, -n} {
			if told, is := p.next(t); !is || rowText(told.Row) != rowText(values(number(v))) {
				t.Fatalf("row %d: %s, %v", n, toldText(told), is)
			}
		}
		if n%3 == 0 {
			l.index()
		}
		if n%4 == 0 {
			l.schema(0, ints)
		}
	}
	p.must(t, api.OK)
}

// TestNextRowsLeft: P16.2: as long as there are rows of the last data frame left, they are told, and nothing is read, whatever becomes of the file; then it ends for what stands there.
func TestNextRowsLeft(t *testing.T) {
	l := &laid{}
	l.schema(0, ints)
	l.data(numbers(1, 2, 3))
	end := len(l.b)
	l.data(numbers(4))
	for _, x := range []struct {
		change func(d *dev.Dev)
		want   api.Errno
	}{
		{func(d *dev.Dev) { takeDown(d) }, api.ErrDown},
		{func(d *dev.Dev) { d.Cut(0) }, api.ErrRange},
		{func(d *dev.Dev) { d.Cut(end - 1) }, api.ErrRange},
		{func(d *dev.Dev) { d.Cut(end) }, api.OK},
		{func(d *dev.Dev) { d.Cut(end + 1) }, api.ErrTorn},
		{func(d *dev.Dev) { d.Damage(end, 9) }, api.ErrFence},
		{func(d *dev.Dev) { d.Cut(end); d.Tail(l.b) }, api.ErrOrder},
	} {
		for ahead := 1; ahead <= 3; ahead++ {
			d := device(l.b)
			p := raw(t, d)
			for range ahead {
				p.next(t)
			}
			x.change(d)
			counted := d.Counted()
			for n := ahead; n < 3; n++ {
				if told, is := p.next(t); !is || told.At != int64(n) || d.Counted() != counted || p.r.Err() != api.OK {
					t.Fatalf("row %d: %s, %v, %d", n, toldText(told), is, p.r.Err())
				}
			}
			p.must(t, x.want)
		}
	}
}

// TestErr: P16.3: OK, as long as it has not ended, also behind the last row; behind ErrEnd OK; else what it ended for, told by hand.
func TestErr(t *testing.T) {
	l := &laid{}
	l.schema(0, ints)
	l.data(numbers(1, 2))
	for _, x := range append(atEndings(), ending{nil, api.OK}) {
		r := reader.Raw(device(join(l.b, x.b)))
		for k, want := range []bool{true, true, false, false} {
			before := r.Err()
			if _, is := r.Next(); is != want || k < 3 && before != api.OK || k == 3 && before != x.want {
				t.Fatalf("ahead of call %d: Err %d; then %v", k, before, is)
			}
		}
		if r.Err() != x.want || r.Err() != x.want {
			t.Fatalf("Err: %d, want %d", r.Err(), x.want)
		}
	}
}

// TestErrRows: P16.3: an error of a row is none of the reader.
func TestErrRows(t *testing.T) {
	_, d := exampleFile()
	p := as(t, d, of(plain("z", ofInt)))
	for range 3 {
		if told, is := p.next(t); !is || told.E != api.ErrMissing || p.r.Err() != api.OK {
			t.Fatalf("%s, %v, %d", toldText(told), is, p.r.Err())
		}
	}
	p.must(t, api.OK)
}

// TestAll: P16.3: from the beginning, from the midst of a block, from where one ends, and behind the end.
func TestAll(t *testing.T) {
	for _, l := range []*laid{wholeFiles()[5], wholeFiles()[7], longFile(9)} {
		for _, tail := range [][]byte{nil, row(5, 9)} {
			d := device(join(l.b, tail))
			all := reader.Raw(d).All()
			if int64(len(all)) != l.Rows() {
				t.Fatalf("%d rows of %d", len(all), l.Rows())
			}
			for n := range len(all) + 2 {
				p := raw(t, d)
				for range n {
					p.next(t)
				}
				if got := p.all(t); toldText(got...) != toldText(all[min(n, len(all)):]...) {
					t.Fatalf("behind %d rows: %d", n, len(got))
				}
				p.over(t)
			}
		}
	}
}

// TestSideBySide: P16.2, R5: readers of one file don't see one another.
func TestSideBySide(t *testing.T) {
	l := longFile(20)
	d := device(l.b)
	all := []*pair{raw(t, d), raw(t, d), as(t, d, ints), as(t, d, two, "b"), from(t, d, 0, 5, scan.New(), words{}), from(t, d, l.place(3), 0, l.firstOf(3).walk(), l.firstOf(3))}
	for k := range uint64(400) {
		all[mixed(k)%uint64(len(all))].next(t)
	}
	for _, p := range all {
		p.toEnd(t)
	}
}
