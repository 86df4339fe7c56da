package reader_test

import (
	"bytes"
	"encoding/binary"
	"math"
	"slices"
	"testing"

	"gabion/api"
	"gabion/dev"
	"gabion/frame"
	"gabion/reader"
	"gabion/scan"
)

// someRows are n rows of a schema, mixed ones.
func someRows(s api.Schema, n int, seed uint64) []api.Row {
	r := &source{mixedBytes(seed, 4000, 0)}
	l := r.rows(s, n)
	if len(l) != n {
		panic("rows that may not be a block")
	}
	return l
}

// longFile is a whole file of n data frames and more, as writers lay it: a schema frame each eight data frames, now and then another schema or an index.
func longFile(n int) *laid {
	l := &laid{}
	schemas := []api.Schema{ints, two, floats, nested, texts, wide(16)}
	for i := range n {
		number := int64(i / 7)
		s := schemas[number%6]
		if i%8 == 0 || i%7 == 0 {
			l.schema(number, s)
		}
		l.data(someRows(s, 1+i*5%9, uint64(i)))
		if i%5 == 4 {
			l.index()
		}
	}
	return l
}

// fullFrame is a first data frame of two rows of bytes, and their schema, whose run has just n bytes, from 2000 on: they are packed in tokens of one byte and, a few, of two.
func fullFrame(n int) (api.Schema, api.Frame) {
	s := of(plain("a", ofBytes))
	for size := 400; size < 600; size++ {
		written := join(rowBytes(500), rowBytes(size))
		for pairs := range 20 {
			f := dataFrame(0, 0, 0, 2, tokens(written, pairs))
			if b, e := frame.Encode(f); e == api.OK && len(b) == n+2 {
				return s, f
			}
		}
	}
	panic("no such frame")
}

// rowBytes are the bytes of a row of n bytes.
func rowBytes(n int) []byte { return append(binary.AppendUvarint(nil, uint64(n)), row(5, n)...) }

// tokens are bytes packed in tokens of one byte each, but the first ones of two.
func tokens(b []byte, pairs int) string {
	told := []byte{1}
	for len(b) > 0 {
		k := 1
		if pairs > 0 {
			k = 2
		}
		pairs--
		told = append(append(told, byte(2*k)), b[:k]...)
		b = b[k:]
	}
	return string(told)
}

// wholeFiles are whole files, all of whose blocks are rows.
func wholeFiles() []*laid {
	var files []*laid
	add := func(lay func(l *laid)) {
		l := &laid{}
		lay(l)
		files = append(files, l)
	}
	add(func(l *laid) {})
	add(func(l *laid) { l.schema(0, ints) })
	add(func(l *laid) { l.index() })
	add(func(l *laid) {
		l.schema(0, ints)
		l.schema(0, ints)
		l.schema(1, floats)
		l.index()
		l.schema(1, floats)
	})
	add(func(l *laid) { l.schema(0, ints); l.data(numbers(5)) })
	add(func(l *laid) {
		l.schema(0, ints)
		l.data(numbers(1, 2))
		l.data(numbers(-3))
		l.data(numbers(slices.Repeat([]int64{7, 8}, 32)...))
	})
	add(func(l *laid) { l.schema(0, ints); l.data(numbers(1, 2)); l.schema(1, texts); l.data(rows(text("x"))) })
	add(func(l *laid) {
		l.index()
		l.schema(0, nested)
		l.index()
		l.data(someRows(nested, 3, 1))
		l.schema(0, nested)
		l.data(someRows(nested, 5, 2))
		l.index()
		l.index()
		l.schema(0, nested)
		l.schema(1, floats)
		l.schema(2, two)
		l.data(someRows(two, 4, 3))
		l.schema(2, two)
		l.schema(2, two)
		l.index()
		l.data(someRows(two, 2, 4))
	})
	add(func(l *laid) {
		s, f := fullFrame(maxFrame)
		l.schema(0, s)
		l.lay(f)
		l.data(rows(rawBytes(string(row(0, 1000))), rawBytes(string(row(9, 1000)))))
		l.schema(1, longSchema(1024))
		l.data(rows(rawBytes("")))
	})
	return append(files, longFile(9), longFile(45))
}

// TestRawWhole: P16.1, P16.2, P16.3: whole files, by Next and by All.
func TestRawWhole(t *testing.T) {
	for _, l := range wholeFiles() {
		d := device(l.b)
		raw(t, d).toEnd(t)
		p := raw(t, d)
		p.all(t)
		p.over(t)
		d = device(l.b[:len(l.b)/2])
		d.Write(l.b[len(l.b)/2:])
		raw(t, d).toEnd(t)
	}
}

// TestRawFrames: P16.1, P16.2: files of no frame, of one of each kind, of several, told by hand.
func TestRawFrames(t *testing.T) {
	raw(t, device(nil)).must(t, api.OK)
	raw(t, device(encoded(schemaFrame(0, ints)))).must(t, api.OK)
	raw(t, device(encoded(indexFrame(0, 0, 0)))).must(t, api.OK)
	raw(t, device(encoded(dataFrame(0, 0, 0, 1, "\x00\x02")))).must(t, api.ErrOrder)
	raw(t, device(encoded(schemaFrame(1, ints)))).must(t, api.ErrOrder)
	raw(t, device(encoded(indexFrame(1, 0, 0)))).must(t, api.ErrOrder)
	l := &laid{}
	l.schema(0, ints)
	l.data(numbers(1, math.MinInt64))
	l.data(numbers(0))
	raw(t, device(l.b)).must(t, api.OK, one(0, 0, number(1)), one(1, 0, number(math.MinInt64)), one(2, 0, number(0)))
	l.index()
	l.schema(0, ints)
	l.data(numbers(math.MaxInt64))
	l.schema(1, floats)
	l.schema(2, two)
	l.data([]api.Row{values(number(9), text("")), values(number(8), text("\u00e9"))})
	l.index()
	l.index()
	raw(t, device(l.b)).must(t, api.OK, one(0, 0, number(1)), one(1, 0, number(math.MinInt64)), one(2, 0, number(0)), one(3, 0, number(math.MaxInt64)), one(4, 2, number(9), text("")), one(5, 2, number(8), text("\u00e9")))
}

// TestRawFloats: P16.2, R6: floats to the bit: noughts, infinities, the one NaN.
func TestRawFloats(t *testing.T) {
	s := of(plain("a", ofFloat))
	l := &laid{}
	l.schema(0, s)
	l.data(rows(bits(0), bits(1<<63), bits(theNaN), bits(0xfff8000000000001), bits(0x7ff0000000000001), float(math.Inf(-1)), float(0.1)))
	raw(t, device(l.b)).must(t, api.OK, one(0, 0, bits(0)), one(1, 0, bits(1<<63)), one(2, 0, bits(theNaN)), one(3, 0, bits(theNaN)), one(4, 0, bits(theNaN)), one(5, 0, float(math.Inf(-1))), one(6, 0, float(0.1)))
}

// TestRawDown: P16.1, P16.2: of a file that is down there is a reader, which ends for ErrDown, also behind Start; one that is made behind Start reads.
func TestRawDown(t *testing.T) {
	for _, l := range wholeFiles() {
		d := device(l.b)
		takeDown(d)
		p := raw(t, d)
		p.must(t, api.ErrDown)
		early := raw(t, d)
		d.Start()
		p.over(t)
		if p.r.Err() != api.ErrDown {
			t.Fatalf("behind Start: %d", p.r.Err())
		}
		told := early.toEnd(t)
		if int64(len(told)) != l.Rows() || early.r.Err() != api.OK {
			t.Fatalf("a reader that had read nothing while the file was down: %d rows, %d", len(told), early.r.Err())
		}
	}
}

// TestRawCut: P16.2, P16.3: the first bytes of whole files, up to each place: the rows of the frames that are whole there, then ErrTorn, or OK where a frame ends.
func TestRawCut(t *testing.T) {
	for _, l := range wholeFiles() {
		frames := 0
		for n := range len(l.b) + 1 {
			for frames < len(l.all) && l.place(frames+1) <= n {
				frames++
			}
			if fromEdge := min(n-l.place(frames), l.place(min(frames+1, len(l.all)))-n); fromEdge > 3 && n%11 > 0 {
				continue
			}
			want := api.ErrTorn
			if n == l.place(frames) {
				want = api.OK
			}
			p := raw(t, device(l.b[:n]))
			if told := p.all(t); int64(len(told)) != l.firstOf(frames).Rows() || p.r.Err() != want {
				t.Fatalf("%d bytes of %d: %d rows, %d, want %d, %d", n, len(l.b), len(told), p.r.Err(), l.firstOf(frames).Rows(), want)
			}
			p.over(t)
		}
	}
}

// TestRawChanged: P16.2, P16.3: one byte changed, in each frame, of long ones in some places: the rows of the frames ahead of it, then an error.
func TestRawChanged(t *testing.T) {
	for _, l := range wholeFiles() {
		for i := range l.all {
			for at := l.place(i); at < l.place(i+1); at++ {
				if fromEdge := min(at-l.place(i), l.place(i+1)-1-at); fromEdge > 8 && at%17 > 0 {
					continue
				}
				b := bytes.Clone(l.b)
				b[at] ^= []byte{1, 128, 255, 64}[at%4]
				if at%5 == 0 && l.b[at] != 0 {
					b[at] = 0
				}
				p := raw(t, device(b))
				if told := p.all(t); int64(len(told)) != l.firstOf(i).Rows() || p.r.Err() == api.OK {
					t.Fatalf("the byte %d of frame %d: %d rows, %d, want %d", at, i, len(told), p.r.Err(), l.firstOf(i).Rows())
				}
				p.over(t)
			}
		}
	}
}

// TestWhole: P16.4: behind the end of a whole file Err is OK, and as many rows were told as scan.Whole's Rows, numbered 0, 1, 2 ..; under whatever schema.
func TestWhole(t *testing.T) {
	for _, l := range wholeFiles() {
		d := device(l.b)
		w, at, e := scan.Whole(d)
		if at != len(l.b) || e != api.ErrEnd || w.Rows() != l.Rows() {
			t.Fatalf("not a whole file: %d, %d", at, e)
		}
		for _, s := range []api.Schema{{}, ints, two, floats, of(plain("zz", ofBool)), of(with("zz", ofBool, boolean(1)))} {
			r := reader.Raw(d)
			if len(s.Columns) > 0 {
				r, _ = reader.As(d, s, nil)
			}
			n := int64(0)
			for told, is := r.Next(); is; told, is = r.Next() {
				if told.At != n || r.Err() != api.OK {
					t.Fatalf("row %d: At %d, Err %d", n, told.At, r.Err())
				}
				n++
			}
			if n != w.Rows() || r.Err() != api.OK {
				t.Fatalf("%d rows of %d, %d", n, w.Rows(), r.Err())
			}
		}
	}
}

// TestOwnSchemas: P16.4: a file that is read under its own schemas tells the same values as Raw: each row under the one that it was written under; of a file of one schema all.
func TestOwnSchemas(t *testing.T) {
	for _, l := range wholeFiles() {
		d := device(l.b)
		w, _, _ := scan.Whole(d)
		want := reader.Raw(d).All()
		own := 0
		for n := range w.Number() + 1 {
			s, _ := w.Schema(n)
			got := as(t, d, s).toEnd(t)
			if len(got) != len(want) {
				t.Fatalf("%d rows of %d", len(got), len(want))
			}
			for i := range want {
				if want[i].Number != n {
					continue
				}
				own++
				if toldText(got[i]) != toldText(want[i]) {
					t.Fatalf("row %d: %s, want %s", i, brief(toldText(got[i])), brief(toldText(want[i])))
				}
			}
		}
		if own != len(want) {
			t.Fatalf("only %d rows of %d", own, len(want))
		}
	}
}

// TestCounts: P16.4: at each data frame at most MaxFrame + 2 bytes are read; at each other frame, and at the end, likewise.
func TestCounts(t *testing.T) {
	for _, l := range wholeFiles() {
		for _, tail := range [][]byte{nil, row(5, 9000), row(0, 9000), join(row(0, 1), row(5, 9000))} {
			d := device(join(l.b, tail))
			r := reader.Raw(d)
			frames := 0
			for told, is := r.Next(); is; told, is = r.Next() {
				for frames < len(l.all) && (l.all[frames].f.Kind != 2 || l.all[frames].f.First <= told.At) {
					frames++
				}
				for frames > 0 && l.all[frames-1].f.Kind != 2 {
					frames--
				}
				if d.Counted() > frames*mostRead {
					t.Fatalf("row %d: %d bytes read, by %d frames", told.At, d.Counted(), frames)
				}
			}
			if d.Counted() > (len(l.all)+1)*mostRead {
				t.Fatalf("%d bytes read, by %d frames", d.Counted(), len(l.all))
			}
		}
	}
	s, f := fullFrame(maxFrame)
	l := &laid{}
	l.schema(0, s)
	l.lay(f)
	d := device(join(l.b, row(5, 9000)))
	r := reader.Raw(d)
	if _, is := r.Next(); !is || d.Counted() != 2*2202 {
		t.Fatalf("%v, %d bytes read", is, d.Counted())
	}
}

// TestGreat: P16.2: files as long as a file may be are read to the end.
func TestGreat(t *testing.T) {
	var b []byte
	for n := int64(0); len(b) < 2*api.MaxQuota-100; n++ {
		b = append(append(b, encoded(schemaFrame(n, ints))...), encoded(dataFrame(n, n, n, 1, "\x00\x02"))...)
	}
	w, _, _ := scan.Whole(device(b))
	r := reader.Raw(device(b))
	if l := r.All(); int64(len(l)) != w.Rows() || r.Err() != api.OK || l[len(l)-1].Number != w.Number() {
		t.Fatalf("%d rows of %d, %d", len(l), w.Rows(), r.Err())
	}
	if l := reader.From(device(b), 0, math.MaxInt, scan.New()).All(); len(l) != 0 {
		t.Fatalf("%d rows", len(l))
	}
	for _, b := range [][]byte{row(0, 2*api.MaxQuota), row(5, 2*api.MaxQuota), bytes.Repeat(encoded(indexFrame(0, 0, 0)), 90000)} {
		d := device(b)
		r := reader.Raw(d)
		if l := r.All(); len(l) != 0 || r.Err() == api.OK || d.Counted() > 2*mostRead {
			t.Fatalf("%d rows, %d, %d bytes read", len(l), r.Err(), d.Counted())
		}
	}
	many := device(bytes.Repeat(encoded(schemaFrame(0, ints)), 90000))
	r = reader.Raw(many)
	if l := r.All(); len(l) != 0 || r.Err() != api.OK || many.Counted() < many.Len() {
		t.Fatalf("schema frames alone: %d rows, %d", len(l), r.Err())
	}
}

// exampleFile is that of the chapter's examples.
func exampleFile() (*laid, *dev.Dev) {
	l := &laid{}
	l.schema(0, ints)
	l.data(numbers(1, 2))
	l.schema(1, two)
	l.data([]api.Row{values(number(3), text("x"))})
	return l, device(l.b)
}

// TestExamples: the chapter's examples.
func TestExamples(t *testing.T) {
	l, d := exampleFile()
	raw(t, d).must(t, api.OK, one(0, 0, number(1)), one(1, 0, number(2)), one(2, 1, number(3), text("x")))
	s := of(plain("a", ofFloat), with("b", ofText, text("y")))
	as(t, d, s).must(t, api.OK, one(0, 0, float(1), text("y")), one(1, 0, float(2), text("y")), one(2, 1, float(3), text("x")))
	as(t, d, s, "b").must(t, api.OK, one(0, 0, text("y")), one(1, 0, text("y")), one(2, 1, text("x")))
	as(t, d, of(plain("b", ofText))).must(t, api.OK, refused(0, 0, api.ErrMissing), refused(1, 0, api.ErrMissing), one(2, 1, text("x")))
	for _, x := range []struct {
		s     api.Schema
		names []string
		want  api.Errno
	}{{api.Schema{}, nil, api.ErrEmpty}, {api.Schema{}, []string{"c"}, api.ErrEmpty}, {s, []string{"c"}, api.ErrMissing}} {
		if r, e := reader.As(d, x.s, x.names); r != nil || e != x.want {
			t.Fatalf("As of %v: a reader: %v, %d", x.names, r != nil, e)
		}
	}
	for n := l.place(3) + 1; n < len(l.b); n++ {
		raw(t, device(l.b[:n])).must(t, api.ErrTorn, one(0, 0, number(1)), one(1, 0, number(2)))
	}
}
