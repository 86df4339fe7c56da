package index_test

import (
	"bytes"
	"math"
	"slices"
	"testing"

	"gabion/api"
	"gabion/index"
	"gabion/reader"
)

// TestSeekWhole: P18.4, P18.5: whole files, with a fresh index, with none, with an old one: for every number what Slow tells.
func TestSeekWhole(t *testing.T) {
	led := 0
	for k, l := range wholeFiles() {
		p := lookAt(device(l.b))
		for _, n := range l.asked() {
			_, leads := p.ask(t, n)
			if leads != (p.fresh && n >= 0 && n < l.Rows()) {
				t.Fatalf("file %d, row %d: the index leads there: %v", k, n, leads)
			}
			if leads {
				led++
			}
			want, _ := p.seek(n)
			if want.text() != p.slow(n).text() {
				t.Fatalf("file %d, row %d: the words tell Seek %s, and Slow %s", k, n, brief(want.text()), brief(p.slow(n).text()))
			}
		}
	}
	if led < 200 {
		t.Fatalf("the index led only %d times", led)
	}
}

// TestSeekLong: P18.4, P18.5: files of about as many data frames as an index can tell, and of more; at an Entry's Row, between two of them, behind the last one.
func TestSeekLong(t *testing.T) {
	for _, sizes := range []int{252, 253, 256, 257, 300} {
		l := plainFile(slices.Repeat([]int{3}, sizes)...)
		l.index()
		d := device(l.b)
		rows := l.Rows()
		for _, k := range []int64{0, 1, 2, 31, 62, 63, 64, 70} {
			for _, n := range []int64{12*k - 1, 12 * k, 12*k + 1, 12*k + 2, 12*k + 3, 12*k + 11} {
				r, e := index.Seek(d, n)
				if n < 0 || n >= rows {
					hold(t, n, r, e, answer{e: api.ErrRange})
					continue
				}
				var want []api.Told
				for i := n; i < rows; i++ {
					want = append(want, one(i, 0, number(100+i)))
				}
				hold(t, n, r, e, answer{told: want})
			}
		}
		r, e := index.Seek(d, rows-1)
		hold(t, rows-1, r, e, answer{told: []api.Told{one(rows-1, 0, number(99+rows))}})
		for _, n := range l.behind() {
			mustRefuse(t, d, n, api.ErrRange)
		}
	}
}

// TestSeekAnyIndex: P18.5: a whole file, cut behind each of its frames, with an index there or none, and appended to: what Slow tells.
func TestSeekAnyIndex(t *testing.T) {
	l := longFile(13)
	for k := range len(l.all) + 1 {
		for _, closed := range []bool{false, true} {
			part := &laid{words: l.firstOf(k), b: bytes.Clone(l.b[:l.place(k)])}
			if closed {
				part.index()
			}
			p := lookAt(device(part.b))
			for _, n := range append(part.edges(), -1, part.Rows(), part.Rows()+1) {
				p.ask(t, n)
				if want, _ := p.seek(n); want.text() != p.slow(n).text() {
					t.Fatalf("%d frames: row %d is not what Slow tells", k, n)
				}
			}
		}
	}
}

// TestSeekOverwritten: P18.5: the index overwritten in each of its bytes, with each bit and some others: Seek tells for every number what Slow tells; and what Slow told of the whole file, but the end.
func TestSeekOverwritten(t *testing.T) {
	for _, l := range []*laid{exampleFile(), longFile(6)} {
		whole := lookAt(device(l.b))
		for at := l.place(len(l.all) - 1); at < len(l.b); at++ {
			for _, v := range []byte{0, 1, 99, 255, l.b[at] ^ 1, l.b[at] ^ 16, l.b[at] ^ 128} {
				if v == l.b[at] {
					continue
				}
				b := bytes.Clone(l.b)
				b[at] = v
				p := lookAt(device(b))
				if _, is := p.askLast(t); is {
					t.Fatalf("the byte %d is %d: the index is fresh", at, v)
				}
				for _, n := range []int64{-1, 0, 1, 2, l.Rows() - 1, l.Rows(), math.MaxInt64} {
					_, leads := p.ask(t, n)
					want, _ := p.seek(n)
					if leads || want.text() != p.slow(n).text() || toldText(want.told...) != toldText(whole.slow(n).told...) || want.e != whole.slow(n).e || want.e == api.OK && want.end == api.OK {
						t.Fatalf("the byte %d is %d, row %d: %s", at, v, n, brief(want.text()))
					}
				}
			}
		}
	}
}

// TestSeekNoise: P18.5: the index overwritten with noise, with zeros, with no zero, or with other frames, of the same length and longer.
func TestSeekNoise(t *testing.T) {
	l := longFile(9)
	at := l.place(len(l.all) - 1)
	size := len(l.b) - at
	whole := lookAt(device(l.b))
	for k := range uint64(40) {
		p := lookAt(device(join(l.b[:at], mixedBytes(k, size+int(k%5)*int(k), k%7))))
		for _, n := range append(l.edges(), -1, l.Rows()) {
			if _, leads := p.ask(t, n); leads {
				t.Fatalf("noise leads to row %d", n)
			}
			if want, _ := p.seek(n); want.text() != p.slow(n).text() || toldText(want.told...) != toldText(whole.slow(n).told...) {
				t.Fatalf("noise %d, row %d: %s", k, n, brief(want.text()))
			}
		}
	}
}

// crafted is a file of data frames of 2, 3, 1, 4, 2, 3, 1, 4, 2 rows, a schema frame of its own ahead of the first, of the fifth (the same schema) and of the ninth (another one); and where these stand.
type crafted struct {
	*laid
	schemaAt, dataAt []int64
}

func craft() crafted {
	c := crafted{laid: &laid{}}
	n := int64(0)
	for i, size := range []int{2, 3, 1, 4, 2, 3, 1, 4, 2} {
		if i%4 == 0 {
			c.schemaAt = append(c.schemaAt, int64(len(c.b)))
			c.schema(int64(i/8), []api.Schema{ints, two}[i/8])
		}
		c.dataAt = append(c.dataAt, int64(len(c.b)))
		var rows []api.Row
		for range size {
			row := []api.Value{number(n), text("x")}
			rows = append(rows, values(row[:1+i/8]...))
			n++
		}
		c.data(rows)
	}
	return c
}

// right are the entries of its own index: rows 0 to 9 by the first one, 10 to 19 by the second, 20 and 21 by the third.
func (c crafted) right() []api.Entry {
	return []api.Entry{entry(c.dataAt[0], 0, c.schemaAt[0]), entry(c.dataAt[4], 10, c.schemaAt[1]), entry(c.dataAt[8], 20, c.schemaAt[2])}
}

// closed is the file with an index of these entries, which is fresh.
func (c crafted) closed(t *testing.T, entries ...api.Entry) *look {
	t.Helper()
	p := lookAt(device(join(c.b, encoded(indexFrame(int64(len(c.b)), 9, 22, entries...)))))
	if x, is := p.askLast(t); !is || !slices.Equal(x.Entries, entries) {
		t.Fatalf("that index is not fresh: %v, %s", is, indexText(x))
	}
	return p
}

// leadsTo asks, for all rows from one on and ahead of another, that the index leads to them, or that it does not: then what is told is what Slow tells.
func leadsTo(t *testing.T, p *look, from, to int64, want bool) {
	t.Helper()
	for n := from; n < to; n++ {
		if _, leads := p.ask(t, n); leads != want {
			t.Fatalf("row %d: the index leads there: %v, want %v by hand", n, leads, want)
		}
		if told, _ := p.seek(n); !want && told.text() != p.slow(n).text() {
			t.Fatalf("row %d: %s", n, brief(told.text()))
		}
	}
}

// TestSeekEntries: P18.4: the right entries, none, the first ones alone: the index leads to what they tell, from the last Entry on whose Row is not behind.
func TestSeekEntries(t *testing.T) {
	c := craft()
	right := c.right()
	p := c.closed(t, right...)
	leadsTo(t, p, 0, 22, true)
	for _, n := range []int64{-1, 22, 23, 1 << 40, math.MaxInt64} {
		mustRefuse(t, p.d, n, api.ErrRange)
	}
	leadsTo(t, c.closed(t), 0, 22, false)
	for k := range right {
		leadsTo(t, c.closed(t, right[:k+1]...), 0, 22, true)
	}
	// What comes first is no entry of the second: its Seq is not 0.
	leadsTo(t, c.closed(t, right[1:]...), 0, 22, false)
	leadsTo(t, c.closed(t, right[1], right[0]), 0, 22, false)
	// The last one whose Row is at most n, though one ahead of it has a greater Row.
	leadsTo(t, c.closed(t, entry(0, 21, 0), right[1]), 0, 10, false)
	leadsTo(t, c.closed(t, entry(0, 21, 0), right[1]), 10, 22, true)
	leadsTo(t, c.closed(t, right[0], right[1], entry(5, 3, 5)), 0, 3, true)
	leadsTo(t, c.closed(t, right[0], right[1], entry(5, 3, 5)), 3, 22, false)
	// More entries than the file has frames, all behind n.
	leadsTo(t, c.closed(t, append(c.right(), slices.Repeat([]api.Entry{entry(0, 22, 0)}, 61)...)...), 0, 22, true)
	leadsTo(t, c.closed(t, append(c.right(), slices.Repeat([]api.Entry{entry(0, 21, 0)}, 61)...)...), 0, 21, true)
	leadsTo(t, c.closed(t, append(c.right(), slices.Repeat([]api.Entry{entry(0, 21, 0)}, 61)...)...), 21, 22, false)
}

// TestSeekAheadOfEntries: P18.4: n ahead of the first Entry's Row: it goes by Slow.
func TestSeekAheadOfEntries(t *testing.T) {
	c := craft()
	p := c.closed(t, entry(c.dataAt[1], 2, 0), entry(c.dataAt[4], 10, c.schemaAt[1]))
	leadsTo(t, p, 0, 10, false)
	leadsTo(t, p, 10, 22, true)
}

// TestSeekEntrySchema: P18.4: an Entry whose Schema leads to no frame, or to one of another kind, or of another Number: Slow; another frame of the same schema will do.
func TestSeekEntrySchema(t *testing.T) {
	c := craft()
	for _, at := range []int64{1, 2, c.schemaAt[1] - 1, c.schemaAt[1] + 1, c.dataAt[0], c.dataAt[4], c.dataAt[8], c.schemaAt[2], int64(len(c.b)), int64(len(c.b)) + 1, 1 << 31, 1<<40 - 1} {
		e := c.right()
		e[1].Schema = at
		p := c.closed(t, e...)
		leadsTo(t, p, 0, 10, true)
		leadsTo(t, p, 10, 20, false)
		leadsTo(t, p, 20, 22, true)
	}
	for _, at := range []int64{c.schemaAt[0], c.schemaAt[1]} {
		e := c.right()
		e[1].Schema = at
		leadsTo(t, c.closed(t, e...), 0, 22, true)
		e = c.right()
		e[2].Schema = at
		leadsTo(t, c.closed(t, e...), 20, 22, false)
	}
}

// TestSeekEntryAt: P18.4: an Entry whose At leads to no frame, to one of another kind, or to a data frame of another Number, Seq or First: Slow.
func TestSeekEntryAt(t *testing.T) {
	c := craft()
	for _, at := range []int64{0, 1, c.dataAt[4] - 1, c.dataAt[4] + 1, c.schemaAt[1], c.schemaAt[2], c.dataAt[0], c.dataAt[3], c.dataAt[5], c.dataAt[8], int64(len(c.b)), int64(len(c.b)) + 1, 1 << 31, 1<<40 - 1} {
		e := c.right()
		e[1].At = at
		p := c.closed(t, e...)
		leadsTo(t, p, 0, 10, true)
		leadsTo(t, p, 10, 20, false)
		leadsTo(t, p, 20, 22, true)
	}
}

// TestSeekEntryRow: P18.4: an Entry whose Row is not the First of its frame: Slow, from that Row on.
func TestSeekEntryRow(t *testing.T) {
	c := craft()
	for _, row := range []int64{0, 1, 9, 11, 19} {
		e := c.right()
		e[1].Row = row
		p := c.closed(t, e...)
		leadsTo(t, p, 0, row, true)
		leadsTo(t, p, row, 20, false)
		leadsTo(t, p, 20, 22, true)
	}
}

// TestSeekEntrySeq: P18.4: a data frame that stands where its Entry says, and has its First, but whose Seq is not four times the Entry's number.
func TestSeekEntrySeq(t *testing.T) {
	for _, seq := range []int64{0, 1, 3, 4, 5, 8, 1<<40 - 2} {
		schema, data := encoded(schemaFrame(0, ints)), encoded(dataFrame(0, seq, 10, 2, packed(ints, numbers(5, 6))))
		b := join(schema, data)
		for k := range 3 {
			entries := append(slices.Repeat([]api.Entry{entry(0, 0, 0)}, k), entry(int64(len(schema)), 10, 0))
			p := lookAt(device(join(b, encoded(indexFrame(int64(len(b)), seq+1, 12, entries...)))))
			if _, is := p.askLast(t); !is {
				t.Fatalf("that index is not fresh")
			}
			for n := range int64(14) {
				if _, leads := p.ask(t, n); leads != (seq == int64(4*k) && (n == 10 || n == 11)) {
					t.Fatalf("Seq %d, entry %d, row %d: the index leads there: %v", seq, k, n, leads)
				}
			}
		}
	}
}

// TestSeekEntryNumber: P18.4: a data frame of another Number than that of the schema at the Entry's Schema.
func TestSeekEntryNumber(t *testing.T) {
	for _, x := range [][2]int64{{0, 0}, {3, 3}, {1<<31 - 1, 1<<31 - 1}, {0, 1}, {1, 0}, {5, 6}, {1<<31 - 1, 0}} {
		schema, data := encoded(schemaFrame(x[0], ints)), encoded(dataFrame(x[1], 0, 0, 2, packed(ints, numbers(5, 6))))
		b := join(schema, data)
		p := lookAt(device(join(b, encoded(indexFrame(int64(len(b)), 1, 2, entry(int64(len(schema)), 0, 0))))))
		for n := range int64(3) {
			if _, leads := p.ask(t, n); leads != (x[0] == x[1] && n < 2) {
				t.Fatalf("numbers %v, row %d: the index leads there: %v", x, n, leads)
			}
		}
		if r, e := index.Seek(p.d, 1); x[0] == x[1] {
			hold(t, 1, r, e, answer{told: []api.Told{one(1, x[0], number(6))}})
		} else {
			hold(t, 1, r, e, answer{e: api.ErrRange})
		}
	}
}

// TestSeekBehindDamage: P18.4: by a fresh index rows are told that stand behind what is damaged, which Slow can't: what the promise says, not what is best.
func TestSeekBehindDamage(t *testing.T) {
	c := craft()
	p := c.closed(t, c.right()...)
	whole := p.beginning.told
	p.d.Damage(int(c.dataAt[1])+3, p.b[c.dataAt[1]+3]^1)
	q := lookAt(p.d)
	why := q.beginning.end
	if why == api.OK || len(q.beginning.told) != 2 {
		t.Fatalf("the words tell %d rows, and %d", len(q.beginning.told), why)
	}
	for n := range int64(22) {
		_, leads := q.ask(t, n)
		r, e := index.Seek(q.d, n)
		s, slow := index.Slow(q.d, n)
		switch {
		case !leads:
			t.Fatalf("the index leads not to row %d", n)
		case n < 2:
			hold(t, n, r, e, answer{told: whole[n:2], end: why})
			hold(t, n, s, slow, answer{told: whole[n:2], end: why})
		case n < 10:
			hold(t, n, r, e, answer{end: why})
			hold(t, n, s, slow, answer{e: api.ErrRange})
		default:
			hold(t, n, r, e, answer{told: whole[n:]})
			hold(t, n, s, slow, answer{e: api.ErrRange})
		}
	}
	mustRefuse(t, q.d, 22, api.ErrRange)
}

// TestSeekFirstEntriesWrong: P18.4: entries ahead of the one that leads are not held against the file; the walk has them as they are.
func TestSeekFirstEntriesWrong(t *testing.T) {
	c := craft()
	e := c.right()
	e[0] = entry(7, 3, 9)
	p := c.closed(t, e...)
	leadsTo(t, p, 0, 10, false)
	leadsTo(t, p, 10, 22, true)
	r, errno := index.Seek(p.d, 21)
	hold(t, 21, r, errno, answer{told: []api.Told{one(21, 1, number(21), text("x"))}})
	r, errno = index.Slow(p.d, 21)
	hold(t, 21, r, errno, answer{told: []api.Told{one(21, 1, number(21), text("x"))}, end: api.ErrOrder})
}

// TestSeekExamples: the chapter's examples.
func TestSeekExamples(t *testing.T) {
	l := exampleFile()
	d := device(l.b)
	at := int64(l.place(3))
	x, is, e := index.Last(d)
	if !is || e != api.OK || indexText(x) != indexText(api.Index{At: at, Frames: 2, Rows: 3, Entries: []api.Entry{entry(int64(l.place(1)), 0, 0)}}) {
		t.Fatalf("Last: %s, %v, %d", indexText(x), is, e)
	}
	must(t, d, 2, api.OK, one(2, 0, number(3)))
	mustRefuse(t, d, 3, api.ErrRange)
	mustRefuse(t, d, -1, api.ErrRange)
	for at := l.place(3); at < len(l.b); at++ {
		c := d.Clone()
		c.Damage(at, l.b[at]+7)
		if _, is, e := index.Last(c); is || e != api.OK {
			t.Fatalf("the byte %d overwritten: Last: %v, %d", at, is, e)
		}
		r, e := index.Seek(c, 2)
		if e != api.OK {
			t.Fatalf("the byte %d overwritten: Seek: %d", at, e)
		}
		if told, is := r.Next(); !is || toldText(told) != toldText(one(2, 0, number(3))) {
			t.Fatalf("the byte %d overwritten: %s, %v", at, toldText(told), is)
		}
		if _, is := r.Next(); is || r.Err() == api.OK {
			t.Fatalf("the byte %d overwritten: more rows, or no error", at)
		}
	}
	l.data(numbers(4, 5))
	d = device(l.b)
	if _, is, e := index.Last(d); is || e != api.OK {
		t.Fatalf("appended to: Last: %v, %d", is, e)
	}
	must(t, d, 2, api.OK, one(2, 0, number(3)), one(3, 0, number(4)), one(4, 0, number(5)))
	must(t, d, 4, api.OK, one(4, 0, number(5)))
	mustRefuse(t, d, 5, api.ErrRange)
}

// bigRow is a row that can't be packed.
func bigRow(n int) api.Row {
	return values(rawBytes(string(mixedBytes(uint64(n), 1000, 0))))
}

// writtenFile is a file as writers write it, of frames as long as they may be: n data frames of two rows each; a schema frame of as many bytes as may be where one is due or the schema changes; an index wherever a writer closes it.
func writtenFile(n, change, closing int) *laid {
	l := &laid{}
	schemas := []api.Schema{of(with("a", ofBytes, rawBytes(string(mixedBytes(1, 1000, 0))))), of(with("b", ofBytes, rawBytes(string(mixedBytes(2, 1000, 0)))))}
	since, number := 0, int64(-1)
	for i := range n {
		if want := int64(i / change); want != number || since == 8 {
			number, since = want, 0
			l.schema(number, schemas[number%2])
		}
		l.data([]api.Row{bigRow(2 * i), bigRow(2*i + 1)})
		since++
		if (i+1)%closing == 0 && i < n-1 {
			l.index()
		}
	}
	l.index()
	return l
}

// TestSeekIsShort: P18.6: of files as writers write them, of at most 256 data frames, with a fresh index: a Seek and the first Next behind it read at most fifteen frames' bytes, at each block's rows; by Slow it would be more.
func TestSeekIsShort(t *testing.T) {
	most := 0
	for _, x := range []struct{ n, change, closing int }{{1, 1, 1}, {3, 9, 9}, {40, 99, 99}, {40, 1, 99}, {40, 99, 1}, {60, 1, 1}, {60, 3, 2}, {256, 1, 64}, {256, 300, 300}, {256, 5, 16}} {
		l := writtenFile(x.n, x.change, x.closing)
		d := device(l.b)
		for n := range l.Rows() {
			counted := d.Counted()
			r, e := index.Seek(d, n)
			if e != api.OK {
				t.Fatalf("%v: Seek(%d): %d", x, n, e)
			}
			one, is := r.Next()
			if !is || one.At != n || rowText(one.Row) != rowText(bigRow(int(n))) {
				t.Fatalf("%v: Seek(%d): %d, %v", x, n, one.At, is)
			}
			most = max(most, d.Counted()-counted)
		}
		if most > mostShort {
			t.Fatalf("%v: %d bytes were read", x, most)
		}
	}
	if most < 9*mostRead {
		t.Fatalf("only %d bytes were read", most)
	}
	l := writtenFile(40, 99, 99)
	d := device(l.b)
	if r, _ := index.Slow(d, 79); r == nil || d.Counted() <= mostShort {
		t.Fatalf("Slow read %d bytes", d.Counted())
	}
}

// TestSeekErrRangeIsShort: P18.4: of a number behind a fresh index's Rows nothing is read but the index and what is ahead of it.
func TestSeekErrRangeIsShort(t *testing.T) {
	l := writtenFile(30, 4, 7)
	for _, n := range l.behind() {
		d := device(l.b)
		if r, e := index.Seek(d, n); r != nil || e != api.ErrRange || d.Counted() > mostLast {
			t.Fatalf("Seek(%d): %d, %d bytes read", n, e, d.Counted())
		}
	}
}

// TestSeekTwice: R5: readers of one file go on each for itself, however they were made.
func TestSeekTwice(t *testing.T) {
	c := craft()
	p := c.closed(t, c.right()...)
	var readers []*reader.Reader
	for n := range int64(22) {
		r, _ := index.Seek(p.d, n)
		s, _ := index.Slow(p.d, n)
		readers = append(readers, r, s)
	}
	for turn := range int64(22) {
		for k, r := range readers {
			n := int64(k/2) + turn
			told, is := r.Next()
			if is != (n < 22) || is && toldText(told) != toldText(p.beginning.told[n]) {
				t.Fatalf("reader %d, turn %d: %s, %v", k, turn, toldText(told), is)
			}
		}
	}
}
