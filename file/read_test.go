package file_test

import (
	"bytes"
	"math"
	"testing"

	"gabion/api"
)

// exampleFile is that of the rows 1, 2 (`a int`), then 3, "x" (`a int, b text = "x"`), then 2^53 + 1, in three appends; it is closed.
func exampleFile(t *testing.T) *twins {
	t.Helper()
	p := begun(t, plenty, ints)
	p.do(step{ints, numbers(1, 2)}, step{two, []api.Row{values(number(3), text("y"))}}, step{ints, numbers(1<<53 + 1)})
	p.mustClose(true, api.OK)
	return p
}

// rowsOfExample are its rows.
func rowsOfExample() []api.Told {
	l := told(0, 0, numbers(1, 2)...)
	l = append(l, told(2, 1, values(number(3), text("y")))...)
	return append(l, told(3, 2, numbers(1<<53+1)...)...)
}

// TestRows: P20.3: all rows as they were written; of a file without any none; open and not open.
func TestRows(t *testing.T) {
	p := exampleFile(t)
	for range 2 {
		l, e := p.rows()
		mustTell(t, "Rows", l, e, rowsOfExample(), api.OK)
		p.openUnder(two)
	}
	for _, b := range [][]byte{nil, encoded(schemaFrame(0, ints)), encoded(indexFrame(0, 0, 0)), join(encoded(schemaFrame(0, ints)), encoded(schemaFrame(1, two)))} {
		p := oddOf(t, b)
		for range 2 {
			l, e := p.rows()
			mustTell(t, "Rows", l, e, nil, api.OK)
			l, e = p.as(ints)
			mustTell(t, "As", l, e, nil, api.OK)
			for _, n := range []int64{-1, 0, 1, math.MaxInt64} {
				l, e = p.from(n)
				mustTell(t, "From", l, e, nil, api.ErrRange)
			}
			p.openUnder(ints)
		}
	}
}

// endings are bytes behind a whole file of three data frames, of four rows, for which reading ends, and why.
func endings() []struct {
	b    []byte
	want api.Errno
} {
	return []struct {
		b    []byte
		want api.Errno
	}{
		{nil, api.OK}, {row(5, 1), api.ErrFence}, {[]byte{0, 0}, api.ErrEmpty}, {[]byte{0}, api.ErrTorn}, {[]byte{0, 5}, api.ErrTorn}, {join(row(0, 1), row(5, 9000)), api.ErrLong},
		{fenced("\x01"), api.ErrShort}, {fenced("\x06\x01\x02\x03\x04\x05"), api.ErrSum}, {fenced(runOf("\x04")), api.ErrKind}, {fenced(runOf("\x02\x80\x00")), api.ErrForm}, {fenced(runOf("\x01\x00\x00")), api.ErrEmpty},
		{encoded(schemaFrame(5, ints)), api.ErrOrder}, {encoded(schemaFrame(2, texts)), api.ErrOrder}, {encoded(dataFrame(2, 3, 3, 1, "\x00\x02")), api.ErrOrder}, {encoded(indexFrame(0, 3, 4)), api.ErrOrder},
		{encoded(dataFrame(2, 3, 4, 1, "\x00")), api.ErrShort}, {encoded(dataFrame(2, 3, 4, 1, "")), api.ErrEmpty}, {encoded(dataFrame(2, 3, 4, 1, "\x00\x02\x02")), api.ErrForm}, {encoded(dataFrame(2, 3, 4, 1, "\x02")), api.ErrForm},
		{encoded(schemaFrame(3, texts)), api.OK}, {encoded(schemaFrame(2, ints)), api.OK},
	}
}

// TestBesideError: P20.3: rows beside an error: all those ahead of it, by each of the three calls.
func TestBesideError(t *testing.T) {
	whole := exampleFile(t).f.Bytes()
	all := rowsOfExample()
	for _, x := range endings() {
		for _, b := range [][]byte{whole, whole[:lastOf(whole).from]} {
			p := oddOf(t, join(b, x.b))
			l, e := p.rows()
			mustTell(t, "Rows", l, e, all, x.want)
			l, e = p.as(ints)
			var want []api.Told
			for _, one := range all {
				want = append(want, told(one.At, one.Number, values(one.Row.Values[0]))...)
			}
			mustTell(t, "As", l, e, want, x.want)
			l, e = p.as(of(with("b", ofText, text("z"))))
			if len(l) != 4 || e != x.want || l[0].Row.Values[0].Text != "z" || l[2].Row.Values[0].Text != "y" {
				t.Fatalf("As: %s, %d, want %d", toldText(l...), e, x.want)
			}
			for n := range int64(4) {
				l, e = p.from(n)
				mustTell(t, "From", l, e, all[n:], x.want)
			}
			l, e = p.from(4)
			mustTell(t, "From", l, e, nil, api.ErrRange)
		}
	}
}

// TestTornRows: P20.3: a file cut at each place: the rows of the data frames ahead of it, and why it ends.
func TestTornRows(t *testing.T) {
	whole := exampleFile(t).f.Bytes()
	all := rowsOfExample()
	for n := range len(whole) + 1 {
		kept, why := 0, api.OK
		for _, one := range framesOf(whole) {
			if one.f.Kind == 2 && one.to <= n {
				kept += one.f.Rows
			}
			if one.from < n && n < one.to {
				why = api.ErrTorn
			}
		}
		p := oddOf(t, whole[:n])
		l, e := p.rows()
		mustTell(t, "Rows", l, e, all[:kept], why)
		p.reads()
	}
}

// TestAs: P20.3: under a schema, all columns of it or some by their names; rows that can't be read under it have an error each.
func TestAs(t *testing.T) {
	p := exampleFile(t)
	under := of(plain("a", ofFloat), with("b", ofText, text("z")))
	for range 2 {
		lossy := api.Told{At: 3, Number: 2, E: api.ErrLossy}
		l, e := p.as(under)
		mustTell(t, "As", l, e, append(told(0, 0, values(float(1), text("z")), values(float(2), text("z"))), told(2, 1, values(float(3), text("y")))[0], lossy), api.OK)
		l, e = p.as(under, "b")
		mustTell(t, "As", l, e, append(told(0, 0, rows(text("z"), text("z"))...), told(2, 1, values(text("y")))[0], told(3, 2, values(text("z")))[0]), api.OK)
		l, e = p.as(under, "b", "a")
		mustTell(t, "As", l, e, append(told(0, 0, values(text("z"), float(1)), values(text("z"), float(2))), told(2, 1, values(text("y"), float(3)))[0], lossy), api.OK)
		l, e = p.as(of(plain("b", ofText)))
		mustTell(t, "As", l, e, []api.Told{{At: 0, E: api.ErrMissing}, {At: 1, E: api.ErrMissing}, told(2, 1, values(text("y")))[0], {At: 3, Number: 2, E: api.ErrMissing}}, api.OK)
		l, e = p.as(of(plain("a", ofText)))
		mustTell(t, "As", l, e, []api.Told{{At: 0, E: api.ErrKind}, {At: 1, E: api.ErrKind}, {At: 2, Number: 1, E: api.ErrKind}, {At: 3, Number: 2, E: api.ErrKind}}, api.OK)
		p.openUnder(two)
	}
}

// TestAsRefused: P20.3: no rows, and reader.As's error: a schema that may not be, a name that there is not, or twice; also of a file that is down, or of none; nothing is read.
func TestAsRefused(t *testing.T) {
	whole := exampleFile(t).f.Bytes()
	for _, p := range []*twins{oddOf(t, whole), oddOf(t, nil), oddOf(t, row(5, 9)), downOf(t, whole)} {
		counted := p.f.Counted()
		for _, one := range refusedSchemas() {
			for _, names := range [][]string{nil, {"a"}, {"none"}} {
				l, e := p.as(one.s, names...)
				mustTell(t, "As", l, e, nil, one.want)
			}
		}
		for _, x := range []struct {
			names []string
			want  api.Errno
		}{{[]string{"c"}, api.ErrMissing}, {[]string{"a", "c"}, api.ErrMissing}, {[]string{""}, api.ErrMissing}, {[]string{"a", "a"}, api.ErrTwice}, {[]string{"b", "a", "b"}, api.ErrTwice}, {[]string{"A"}, api.ErrMissing}} {
			l, e := p.as(two, x.names...)
			mustTell(t, "As", l, e, nil, x.want)
		}
		if p.f.Counted() != counted {
			t.Fatalf("a refused As read %d bytes", p.f.Counted()-counted)
		}
	}
}

// TestAsNoNames: P20.3: no names, handed in as nil and as an empty list, are all of the columns.
func TestAsNoNames(t *testing.T) {
	p := exampleFile(t)
	want, _ := p.f.As(two, []string{"a", "b"})
	for _, names := range [][]string{nil, {}} {
		l, e := p.f.As(two, names)
		mustTell(t, "As", l, e, want, api.OK)
	}
	if len(want) != 4 || len(want[0].Row.Values) != 2 {
		t.Fatalf("%s", toldText(want...))
	}
}

// fourFiles are one file with an index that is fresh, with none, with one that is stale (more was appended behind it), and with one that is damaged; and why reading ends.
func fourFiles(t *testing.T, steps ...step) ([]*twins, []api.Errno) {
	t.Helper()
	fresh := begun(t, maxQuota, ints)
	fresh.do(steps...)
	missing := begun(t, maxQuota, ints)
	missing.do(steps...)
	fresh.mustClose(true, api.OK)
	stale := begun(t, maxQuota, ints)
	stale.do(steps[:len(steps)-1]...)
	stale.mustClose(true, api.OK)
	stale.mustOpen(ints, api.OK)
	stale.do(steps[len(steps)-1])
	b := fresh.f.Bytes()
	b[lastOf(b).from+5] ^= 1
	return []*twins{fresh, missing, stale, oddOf(t, b)}, []api.Errno{api.OK, api.OK, api.OK, api.ErrSum}
}

// TestFrom: P20.3: the first row, each one, the last one, one behind it, below 0; with an index that is fresh, missing, stale, damaged; open and not open.
func TestFrom(t *testing.T) {
	for _, steps := range [][]step{shortScript(), script()} {
		files, ends := fourFiles(t, steps...)
		for k, p := range files {
			all, why := p.rows()
			must(t, "Rows", why, ends[k])
			last := int64(len(all) - 1)
			for n := range last + 1 {
				l, e := p.from(n)
				mustTell(t, "From", l, e, all[n:], ends[k])
			}
			for _, n := range []int64{-1, math.MinInt64, last + 1, last + 2, 1 << 40, math.MaxInt64} {
				l, e := p.from(n)
				mustTell(t, "From", l, e, nil, api.ErrRange)
			}
			if p.open {
				continue
			}
			p.mustOpen(texts, api.OK)
			l, e := p.from(last)
			mustTell(t, "From, open", l, e, all[last:], api.OK)
			p.mustAppend(rows(text("new")), api.OK)
			l, e = p.from(last + 1)
			if len(l) != 1 || e != api.OK || l[0].At != last+1 || l[0].Row.Values[0].Text != "new" {
				t.Fatalf("From behind an append: %s, %d", toldText(l...), e)
			}
		}
	}
}

// TestFromEmptyIndex: P20.3: a file of nothing but an index, and such as are down.
func TestFromEmptyIndex(t *testing.T) {
	p := begun(t, plenty, ints)
	p.mustClose(true, api.OK)
	for _, n := range []int64{-1, 0, 1} {
		l, e := p.from(n)
		mustTell(t, "From", l, e, nil, api.ErrRange)
	}
	for _, b := range [][]byte{nil, exampleFile(t).f.Bytes(), p.f.Bytes()} {
		downOf(t, b).mustBeDown()
	}
}

// TestSalvageBytes: P20.3, P20.4: what can be saved, and the bytes; open, not open and down: nothing of it is counted as read.
func TestSalvageBytes(t *testing.T) {
	open := written(t, shortScript()...)
	whole := open.Bytes()
	want := batchText(open.Salvage()...)
	if len(open.Salvage()) != len(shortScript()) {
		t.Fatalf("%d batches", len(open.Salvage()))
	}
	at := 0
	for k, one := range framesOf(whole) {
		if one.f.Kind != 2 {
			continue
		}
		b := open.Salvage()[at]
		if b.At != one.from || b.Number != one.f.Number || b.Seq != int64(at) || b.First != one.f.First || rowsText(b.Rows) != rowsText(fixedRows(shortScript()[at].l)) {
			t.Fatalf("frame %d: %s", k, brief(batchText(b)))
		}
		at++
	}
	for _, p := range []*twins{oddOf(t, whole), downOf(t, whole)} {
		if got := p.salvage(); batchText(got...) != want || !bytes.Equal(p.f.Bytes(), whole) || p.f.Counted() != p.d.Counted() {
			t.Fatalf("not open: %s", brief(batchText(got...)))
		}
	}
	counted := open.Counted()
	open.Salvage()
	open.Bytes()
	if open.Counted() != counted {
		t.Fatalf("Salvage or Bytes counts as reading")
	}
}

func fixedRows(l []api.Row) []api.Row {
	var all []api.Row
	for _, r := range l {
		all = append(all, fixedRow(r))
	}
	return all
}

// TestCounted: P20.4: how many bytes were read: of a new file none; a frame at a time, of at most MaxFrame + 2; what is refused, and what is down, reads nothing.
func TestCounted(t *testing.T) {
	f := newFile(plenty)
	f.Rows()
	f.From(0)
	f.As(ints, nil)
	if f.Counted() != 0 {
		t.Fatalf("of a file of no bytes: %d", f.Counted())
	}
	b := exampleFile(t).f.Bytes()
	frames := framesOf(b)
	f = fileOf(b)
	want := 0
	for _, one := range frames {
		want += min(len(b)-one.from, maxFrame+2)
	}
	for k := range 3 {
		f.Rows()
		if f.Counted() != (k+1)*want {
			t.Fatalf("Rows, %d times: %d, want %d", k+1, f.Counted(), (k+1)*want)
		}
	}
	f.As(two, nil)
	if f.Counted() != 4*want {
		t.Fatalf("As: %d, want %d", f.Counted(), 4*want)
	}
	f.As(two, []string{"c"})
	f.Opened()
	f.Clone().Rows()
	if f.Counted() != 4*want {
		t.Fatalf("what reads nothing: %d, want %d", f.Counted(), 4*want)
	}
}

// TestOpened: P20.4: whether it is open, by hand.
func TestOpened(t *testing.T) {
	f := newFile(plenty)
	holds := func(want bool) {
		t.Helper()
		if f.Opened() != want {
			t.Fatalf("it is open: %v", f.Opened())
		}
	}
	holds(false)
	f.Open(api.Schema{})
	holds(false)
	f.Open(ints)
	holds(true)
	f.Open(ints)
	f.Append(nil)
	f.Append(numbers(1))
	f.Change(api.Schema{})
	f.Change(two)
	f.Sync()
	f.Rows()
	f.Tail(nil)
	holds(true)
	f.Close()
	holds(false)
	f.Close()
	holds(false)
	f.Open(two)
	holds(true)
	f.Fail(0, 0)
	holds(true)
	f.Append(numbers(1))
	holds(true)
	f.Append([]api.Row{values(number(1), text(""))})
	holds(false)
	f.Start()
	holds(false)
	f.Open(two)
	holds(true)
}
