package scan_test

import (
	"math"
	"slices"
	"testing"

	"gabion/api"
	"gabion/frame"
	"gabion/scan"
)

// begin is a walk behind these frames, at the places 0, 100, 200 ..
func begin(t *testing.T, l ...api.Frame) *pair {
	t.Helper()
	p := fresh()
	for i, f := range l {
		p.must(t, f, 100*i, api.OK)
	}
	return p
}

// resume is a walk of Resume, whose Rows, Number and Frames are as they are asked (Frames a multiple of 4).
func resume(t *testing.T, frames, rows, number int64, s api.Schema) *pair {
	t.Helper()
	x := api.Index{}
	for i := range frames/4 + 1 {
		x.Entries = append(x.Entries, entry(i*50, i, 7))
	}
	k := len(x.Entries) - 1
	x.Entries[k].Row = rows
	n := api.Numbered{Number: number, Schema: s}
	p := &pair{scan.Resume(x, k, n), resumed(x, k, n)}
	if p.w == nil {
		t.Fatalf("no walk")
	}
	p.stands(t)
	return p
}

// TestNextEmpty: P14.2, P14.3: what a walk without frames tells, and takes: the schema frame 0, and an index of nothing.
func TestNextEmpty(t *testing.T) {
	p := fresh()
	p.stands(t)
	w := p.w
	if w.Frames() != 0 || w.Rows() != 0 || w.Number() != -1 || w.Since() != 0 || len(w.Entries()) != 0 || w.Closed() {
		t.Fatalf("%d %d %d %d %v %v", w.Frames(), w.Rows(), w.Number(), w.Since(), w.Entries(), w.Closed())
	}
	for _, n := range []int64{-1, 0, 1, maxNumber} {
		s, known := w.Schema(n)
		at, placed := w.Place(n)
		if len(s.Columns) != 0 || known || at != 0 || placed {
			t.Fatalf("of the number %d: %v, %v, %d, %v", n, s, known, at, placed)
		}
	}
	for _, n := range []int64{-1, 0, 1, 2, maxNumber - 1, maxNumber} {
		p.must(t, dataFrame(n, 0, 0, 1, "x"), 0, api.ErrOrder)
		if n != 0 {
			p.must(t, schemaFrame(n, ints), 0, api.ErrOrder)
		}
	}
	for _, f := range []api.Frame{indexFrame(1, 0, 0), indexFrame(0, 1, 0), indexFrame(0, 0, 1), indexFrame(0, 0, 0, entry(0, 0, 0)), {}} {
		p.must(t, f, 0, api.ErrOrder)
	}
	q := p.clone()
	q.must(t, indexFrame(5, 0, 0), 5, api.OK)
	if !q.w.Closed() || q.w.Number() != -1 {
		t.Fatalf("behind an index of nothing: %v, %d", q.w.Closed(), q.w.Number())
	}
	q.must(t, dataFrame(0, 0, 0, 1, ""), 9, api.ErrOrder)
	q.must(t, indexFrame(6, 0, 0), 6, api.OK)
	q.must(t, schemaFrame(1, ints), 9, api.ErrOrder)
	q.must(t, schemaFrame(0, ints), 9, api.OK)
	p.must(t, schemaFrame(0, ints), 0, api.OK)
}

// TestNextPlaces: P14.2: places of -1, 0, MaxSeq - 1, MaxSeq and far away, of each kind; places are not held against one another.
func TestNextPlaces(t *testing.T) {
	for _, x := range []struct {
		at   int
		want api.Errno
	}{
		{-1, api.ErrOrder}, {0, api.OK}, {1, api.OK}, {1<<40 - 1, api.OK}, {1 << 40, api.ErrOrder}, {1<<40 + 1, api.ErrOrder}, {-1 << 40, api.ErrOrder}, {math.MaxInt, api.ErrOrder}, {math.MinInt, api.ErrOrder},
	} {
		fresh().must(t, schemaFrame(0, ints), x.at, x.want)
		fresh().must(t, indexFrame(int64(x.at), 0, 0), x.at, x.want)
		p := begin(t, schemaFrame(0, ints))
		p.must(t, schemaFrame(0, ints), x.at, x.want)
		p.must(t, dataFrame(0, 0, 0, 1, ""), x.at, x.want)
		p.must(t, p.words.ownIndex(int64(x.at)), x.at, x.want)
		if x.want != api.OK {
			continue
		}
		if at, is := p.w.Place(0); at != x.at || !is {
			t.Fatalf("Place: %d, %v, want %d", at, is, x.at)
		}
		if l := p.w.Entries(); !slices.Equal(l, []api.Entry{entry(int64(x.at), 0, int64(x.at))}) {
			t.Fatalf("Entries: %v", l)
		}
	}
	p := fresh() // ever further ahead, and all at one place
	for i, f := range []api.Frame{schemaFrame(0, ints), dataFrame(0, 0, 0, 1, ""), dataFrame(0, 1, 1, 1, ""), schemaFrame(0, ints), schemaFrame(1, ints), dataFrame(1, 2, 2, 1, "")} {
		p.must(t, f, 90-10*i, api.OK)
	}
	for i := range int64(8) {
		p.must(t, dataFrame(1, 3+i, 3+i, 1, ""), 40, api.OK)
	}
}

// TestNextRefused: P14.2: frames that frame.Encode refuses, of each kind, whose numbers are those that follow; the walk then takes what follows.
func TestNextRefused(t *testing.T) {
	p := begin(t, schemaFrame(0, ints), dataFrame(0, 0, 0, 2, "x"))
	for _, k := range []int{0, 4, -1, 5, 257, 258, 1<<32 + 1, math.MaxInt, math.MinInt} {
		f := p.words.ownData(1, "x")
		f.Kind = k
		p.must(t, f, 200, api.ErrOrder)
		f = schemaFrame(0, ints)
		f.Kind = k
		fresh().must(t, f, 0, api.ErrOrder)
	}
	for _, s := range wrongSchemas() {
		fresh().must(t, schemaFrame(0, s), 0, api.ErrOrder)
		p.must(t, schemaFrame(0, s), 200, api.ErrOrder)
		p.must(t, schemaFrame(1, s), 200, api.ErrOrder)
	}
	for _, rows := range []int{0, 65, -1, 66, math.MaxInt, math.MinInt, 1<<32 + 1} {
		p.must(t, p.words.ownData(rows, "x"), 200, api.ErrOrder)
	}
	for n := 2100; n <= 2300; n++ { // of blocks without zeros the longest that may be, and all that are longer
		f := p.words.ownData(1, string(row(7, n)))
		_, e := frame.Encode(f)
		q := p.clone()
		if got := q.next(t, f, 200); (got == api.OK) != (e == api.OK) || n == 2100 && e != api.OK || n >= 2200 && e == api.OK {
			t.Fatalf("a block of %d bytes: %d, Encode %d", n, got, e)
		}
	}
	p.must(t, p.words.ownData(1, string(row(7, 90000))), 200, api.ErrOrder)
	p.must(t, p.words.ownData(64, "x"), 200, api.OK)
	p.must(t, p.words.ownData(1, ""), 200, api.OK)
}

// TestNextBeyond: P14.2: numbers that would follow, but are none: of a schema MaxNumber, of a row MaxSeq, 65 entries.
func TestNextBeyond(t *testing.T) {
	p := resume(t, 8, 5, maxNumber-2, ints)
	p.must(t, schemaFrame(maxNumber-1, texts), 3, api.OK)
	p.must(t, schemaFrame(maxNumber, ints), 4, api.ErrOrder)
	p.must(t, schemaFrame(maxNumber-1, ints), 4, api.ErrOrder)
	p.must(t, schemaFrame(maxNumber-1, texts), 4, api.OK)
	p.must(t, dataFrame(maxNumber-1, 8, 5, 1, ""), 5, api.OK)

	p = resume(t, 4, maxSeq-1, 0, ints)
	p.must(t, p.words.ownIndex(9), 9, api.OK)
	p.must(t, p.words.ownData(64, ""), 10, api.OK)
	if p.w.Rows() != maxSeq+63 {
		t.Fatalf("Rows %d", p.w.Rows())
	}
	p.must(t, p.words.ownData(1, ""), 11, api.ErrOrder)
	p.must(t, p.words.ownIndex(11), 11, api.ErrOrder)
	p.must(t, schemaFrame(0, ints), 11, api.OK)
	p.must(t, schemaFrame(1, ints), 12, api.OK)

	p = resume(t, 4, maxSeq-2, 0, ints)
	p.must(t, p.words.ownData(1, ""), 10, api.OK)
	p.must(t, p.words.ownData(1, ""), 11, api.OK)
	p.must(t, p.words.ownData(1, ""), 12, api.ErrOrder)

	for _, frames := range []int64{4 * 63, 4 * 64, 4 * 65, 4 * 70} {
		p = resume(t, frames, 900, 0, ints)
		want := api.OK
		if frames > 4*64 {
			want = api.ErrOrder // more entries than an index may have
		}
		p.clone().must(t, p.words.ownIndex(9), 9, want)
		before := len(p.w.Entries())
		p.must(t, p.words.ownData(1, ""), 10, api.OK)
		if got := len(p.w.Entries()); got != before && (frames >= 4*64 || got != 64) {
			t.Fatalf("of %d frames: %d entries, then %d", frames, before, got)
		}
		p.clone().must(t, p.words.ownIndex(9), 9, want)
	}
}

// TestNextSchema: P14.2, P14.3: schema frames of each number about the greatest, with the same schema and with another.
func TestNextSchema(t *testing.T) {
	p := fresh()
	schemas := []api.Schema{ints, texts, ints, pairs, floats, nested, ints, longSchema(1024)}
	for i, s := range schemas {
		number := int64(i)
		p.must(t, schemaFrame(number, s), 10*i+1, api.OK)
		if p.w.Number() != number || p.w.Since() != 0 {
			t.Fatalf("Number %d, Since %d", p.w.Number(), p.w.Since())
		}
		for n := int64(-3); n < number+4; n++ {
			for _, other := range schemas {
				want := api.ErrOrder
				if n == number && fixed(other) == fixed(s) || n == number+1 {
					want = api.OK
				}
				p.clone().must(t, schemaFrame(n, other), 900, want)
			}
		}
		p.must(t, p.words.ownData(1, ""), 10*i+2, api.OK)
		p.must(t, p.words.ownData(1, ""), 10*i+3, api.OK)
		p.must(t, schemaFrame(number, s), 10*i+5, api.OK)
		if at, is := p.w.Place(number); at != 10*i+5 || !is || p.w.Since() != 0 {
			t.Fatalf("Place %d, %v, Since %d", at, is, p.w.Since())
		}
	}
	for i, s := range schemas {
		told, is := p.w.Schema(int64(i))
		at, placed := p.w.Place(int64(i))
		if !is || exact(told) != fixed(s) || !placed || at != 10*i+5 {
			t.Fatalf("of the number %d: %s, %v, %d, %v", i, exact(told), is, at, placed)
		}
	}
}

// TestNextSameSchema: P14.2: which schemas are the same: whatever NaN comes, but neither +0 and -0 nor another name, type or default.
func TestNextSameSchema(t *testing.T) {
	one := of(with("f", ofFloat, nan(0xfff8000000000001)), with("l", listOf(ofFloat), list(nan(0x7ff0000000000001), float(0))), plain("o", optOf(ofInt)))
	p := begin(t, schemaFrame(0, one))
	told, _ := p.w.Schema(0)
	if exact(told) != fixed(one) {
		t.Fatalf("a NaN is told as it came: %s", exact(told))
	}
	p.must(t, schemaFrame(0, told), 100, api.OK)
	p.must(t, schemaFrame(0, of(with("f", ofFloat, nan(theNaN)), with("l", listOf(ofFloat), list(nan(0xffffffffffffffff), float(0))), plain("o", optOf(ofInt)))), 200, api.OK)
	for _, s := range []api.Schema{
		of(one.Columns[0], with("l", listOf(ofFloat), list(nan(theNaN), float(minusZero))), one.Columns[2]),
		of(with("f", ofFloat, float(0)), one.Columns[1], one.Columns[2]), of(with("g", ofFloat, nan(theNaN)), one.Columns[1], one.Columns[2]), of(plain("f", ofFloat), one.Columns[1], one.Columns[2]),
		of(one.Columns[0], one.Columns[1], plain("o", listOf(ofInt))), of(one.Columns[0], one.Columns[1], plain("o", optOf(ofBool))), of(one.Columns[0], one.Columns[1], plain("o", ofInt)), of(one.Columns[0], one.Columns[1], with("o", optOf(ofInt), opt())),
		of(one.Columns[1], one.Columns[0], one.Columns[2]), of(one.Columns[0], one.Columns[1]), of(slices.Concat(one.Columns, ints.Columns)...),
	} {
		p.must(t, schemaFrame(0, s), 300, api.ErrOrder)
		p.clone().must(t, schemaFrame(1, s), 300, api.OK)
	}
}

// TestNextData: P14.2, P14.3: data frames of each wrong number, Seq and First; how Frames, Rows, Since and Entries go on.
func TestNextData(t *testing.T) {
	p := begin(t, schemaFrame(0, ints), schemaFrame(1, texts), schemaFrame(2, ints))
	rows := int64(0)
	for i := range int64(20) {
		at := int(300 + i)
		right := dataFrame(2, i, rows, 1+int(i*7%64), "block")
		for _, by := range []int64{1, -1, 2, -2, 3, 1 << 8, 1 << 16, 1 << 32, -1 << 32, 1 << 40, math.MinInt64} {
			for _, field := range []func(f *api.Frame) *int64{func(f *api.Frame) *int64 { return &f.Number }, func(f *api.Frame) *int64 { return &f.Seq }, func(f *api.Frame) *int64 { return &f.First }} {
				f := right
				*field(&f) += by
				p.must(t, f, at, api.ErrOrder)
			}
		}
		p.must(t, right, at, api.OK)
		p.must(t, right, at, api.ErrOrder)
		rows += int64(right.Rows)
		if p.w.Frames() != i+1 || p.w.Rows() != rows || p.w.Since() != int(i+1) || len(p.w.Entries()) != int(i/4+1) {
			t.Fatalf("behind the data frame %d: %d, %d, %d, %v", i, p.w.Frames(), p.w.Rows(), p.w.Since(), p.w.Entries())
		}
	}
	p.must(t, schemaFrame(3, ints), 500, api.OK)
	p.must(t, dataFrame(2, 20, rows, 1, ""), 600, api.ErrOrder)
	p.must(t, dataFrame(3, 20, rows, 1, ""), 600, api.OK)
	if l := p.w.Entries(); p.w.Since() != 1 || l[5] != entry(600, rows, 500) || l[4].Schema != 200 {
		t.Fatalf("Since %d, Entries %v", p.w.Since(), l)
	}
}

// unlikeIndexes are indexes that differ from one in one number, or have one entry more or fewer.
func unlikeIndexes(x api.Index) []api.Index {
	var l []api.Index
	copied := func() api.Index {
		c := x
		c.Entries = slices.Clone(x.Entries)
		return c
	}
	for _, by := range []int64{1, -1} {
		for field := range 3 {
			c := copied()
			*[]*int64{&c.At, &c.Frames, &c.Rows}[field] += by
			l = append(l, c)
			for i := range x.Entries {
				c := copied()
				one := &c.Entries[i]
				*[]*int64{&one.At, &one.Row, &one.Schema}[field] += by
				l = append(l, c)
			}
		}
	}
	for i := range x.Entries {
		c := copied()
		c.Entries = slices.Delete(c.Entries, i, i+1)
		l = append(l, c)
		c = copied()
		c.Entries = slices.Insert(c.Entries, i, c.Entries[i])
		l = append(l, c)
	}
	c := copied()
	c.Entries = append(c.Entries, entry(x.At, x.Rows, 0))
	return append(l, c)
}

// TestNextIndex: P14.2, P14.3: about each multiple of IndexEvery data frames and beyond MaxIndexEntries entries: the frames' own index is taken, and none that differs from it.
func TestNextIndex(t *testing.T) {
	p, at := fresh(), 5
	for i := range 4*64 + 10 {
		if i%8 == 0 {
			p.must(t, schemaFrame(int64(i/24), []api.Schema{ints, texts}[i/24%2]), at, api.OK)
			at += 20
		}
		own := p.words.ownIndex(int64(at))
		if entries := min(64, (i+3)/4); len(own.Index.Entries) != entries {
			t.Fatalf("ahead of the data frame %d the words tell %d entries, want %d", i, len(own.Index.Entries), entries)
		}
		if i < 20 || i%4 < 2 && i < 100 || i > 4*63-3 {
			for _, x := range unlikeIndexes(own.Index) {
				if e := p.w.Next(api.Frame{Kind: api.IndexFrame, Index: x}, at); e != api.ErrOrder {
					t.Fatalf("ahead of the data frame %d: %d for %v, want ErrOrder", i, e, x)
				}
			}
		}
		for _, off := range []int{-1, 1, 2, 1000} {
			if e := p.w.Next(own, at+off); e != api.ErrOrder {
				t.Fatalf("ahead of the data frame %d: %d for an index of another place", i, e)
			}
		}
		p.stands(t)
		p.clone().must(t, own, at, api.OK)
		p.must(t, p.words.ownData(1+i%64, ""), at, api.OK)
		at += 30
	}
	if len(p.w.Entries()) != 64 {
		t.Fatalf("%d entries", len(p.w.Entries()))
	}
	more := p.words.ownIndex(int64(at))
	more.Index.Entries = append(more.Index.Entries, entry(int64(at), 0, 0))
	p.must(t, more, at, api.ErrOrder)
	p.must(t, p.words.ownIndex(int64(at)), at, api.OK)
}

// TestBehindIndex: P14.2, P14.3: behind an index come schema frames, data frames, and another index; the index counts for nothing but Closed.
func TestBehindIndex(t *testing.T) {
	p := begin(t, schemaFrame(0, ints), dataFrame(0, 0, 0, 3, "x"))
	before := standing(p.w, 2, exact)
	p.must(t, p.words.ownIndex(200), 200, api.OK)
	if !p.w.Closed() || p.w.Since() != 1 {
		t.Fatalf("Closed %v, Since %d", p.w.Closed(), p.w.Since())
	}
	for _, f := range []api.Frame{schemaFrame(0, texts), schemaFrame(2, ints), dataFrame(0, 0, 0, 3, "x"), dataFrame(0, 1, 4, 1, "x"), p.words.ownIndex(200), {}} {
		p.must(t, f, 300, api.ErrOrder)
		if !p.w.Closed() {
			t.Fatalf("a frame that was refused has opened it")
		}
	}
	again, same, other, data := p.clone(), p.clone(), p.clone(), p.clone()
	again.must(t, p.words.ownIndex(300), 300, api.OK)
	same.must(t, schemaFrame(0, ints), 300, api.OK)
	other.must(t, schemaFrame(1, texts), 300, api.OK)
	data.must(t, dataFrame(0, 1, 3, 5, "y"), 300, api.OK)
	if !p.w.Closed() || !again.w.Closed() || same.w.Closed() || other.w.Closed() || data.w.Closed() {
		t.Fatalf("Closed: %v %v %v %v %v", p.w.Closed(), again.w.Closed(), same.w.Closed(), other.w.Closed(), data.w.Closed())
	}
	if data.w.Since() != 2 || data.w.Frames() != 2 || data.w.Rows() != 8 || same.w.Since() != 0 || len(data.w.Entries()) != 1 {
		t.Fatalf("behind an index: Since %d, Frames %d, Rows %d", data.w.Since(), data.w.Frames(), data.w.Rows())
	}
	data.must(t, data.words.ownIndex(400), 400, api.OK)
	data.must(t, schemaFrame(0, ints), 500, api.OK)
	if q := begin(t, schemaFrame(0, ints), dataFrame(0, 0, 0, 3, "x")); standing(q.w, 2, exact) != before {
		t.Fatalf("the same frames tell something else")
	}
}

// TestOtherFields: P14.2: fields that don't count are not looked at.
func TestOtherFields(t *testing.T) {
	junk := api.Frame{Number: -5, Schema: wide(17), Seq: -1, First: maxSeq, Rows: 70, Block: row(1, 5000), Index: api.Index{At: -1, Frames: -1, Rows: -1, Entries: make([]api.Entry, 90)}}
	p := fresh()
	for i, f := range []api.Frame{schemaFrame(0, ints), dataFrame(0, 0, 0, 2, "x"), schemaFrame(0, ints), schemaFrame(1, texts), dataFrame(1, 1, 2, 2, "x"), indexFrame(500, 2, 4, entry(100, 0, 0)), dataFrame(1, 2, 4, 1, "")} {
		full := junk
		full.Kind = f.Kind
		switch f.Kind {
		case api.SchemaFrame:
			full.Number, full.Schema = f.Number, f.Schema
		case api.DataFrame:
			full.Number, full.Seq, full.First, full.Rows, full.Block = f.Number, f.Seq, f.First, f.Rows, f.Block
		case api.IndexFrame:
			full.Index = f.Index
		}
		p.must(t, full, 100*i, api.OK)
	}
}

// TestExample: the chapter's example, by its numbers.
func TestExample(t *testing.T) {
	l := &laid{}
	l.schema(0, ints)
	l.data(2, "\x00\x02\x04")
	l.data(1, "\x00\x02")
	w, at, e := scan.Whole(device(l.b))
	if e != api.ErrEnd || at != len(l.b) || w.Frames() != 2 || w.Rows() != 3 || w.Number() != 0 || w.Since() != 2 || w.Closed() {
		t.Fatalf("Whole: %d, %d, %d, %d, %d, %d, %v", at, e, w.Frames(), w.Rows(), w.Number(), w.Since(), w.Closed())
	}
	if got := w.Entries(); !slices.Equal(got, []api.Entry{entry(l.all[1].at, 0, 0)}) {
		t.Fatalf("Entries: %v", got)
	}
	for i, x := range []struct {
		f    api.Frame
		want api.Errno
	}{
		{l.all[2].f, api.ErrOrder}, {schemaFrame(2, ints), api.ErrOrder}, {schemaFrame(0, texts), api.ErrOrder}, {schemaFrame(1, texts), api.OK}, {schemaFrame(0, ints), api.ErrOrder},
	} {
		if e := w.Next(x.f, at); e != x.want {
			t.Fatalf("frame %d: %d, want %d", i, e, x.want)
		}
		if x.want == api.OK && w.Since() != 0 {
			t.Fatalf("Since %d", w.Since())
		}
	}
	d := device(l.b)
	if _, _, e := scan.At(d, 1); e != api.ErrFence {
		t.Fatalf("At(1): %d", e)
	}
	if _, _, e := scan.At(d, len(l.b)+1); e != api.ErrRange {
		t.Fatalf("At behind the end: %d", e)
	}
}
