package file_test

import (
	"bytes"
	"testing"

	"gabion/api"
)

// TestAppendedIsRead: P0.1: appends under schemas that change, with syncs, closes and openings between them in each rhythm: the rows, under their own schemas and under others; a refusal leaves the bytes as they were.
func TestAppendedIsRead(t *testing.T) {
	for rhythm := range 12 {
		p := begun(t, maxQuota, ints)
		for k, one := range script() {
			if rhythm%3 > 0 && k%(rhythm%3) == 0 {
				p.mustClose(lastOr(p.f.Bytes()) != 3, api.OK)
				p.mustBeShut()
				p.mustOpen(one.s, api.OK)
			}
			if rhythm%2 == 1 {
				must(t, "Sync", p.sync(), api.OK)
			}
			p.do(one)
			if rhythm%4 == 3 {
				bad := allRefusedRows()[k%len(allRefusedRows())]
				must(t, "Change", p.change(bad.s), api.OK)
				p.mustAppend(bad.l, bad.want)
			}
			if k%12 == rhythm {
				p.mustRead()
			}
		}
		p.mustRead()
		p.mustClose(true, api.OK)
		p.mustRead()
	}
}

// lastOr is the kind of the last frame; 0, if there is none.
func lastOr(b []byte) int {
	if len(b) == 0 {
		return 0
	}
	return lastOf(b).f.Kind
}

// TestAppendedKinds: P0.1: rows of a schema read under another one, told by hand: each kind as itself, and as what it can be read as.
func TestAppendedKinds(t *testing.T) {
	s := of(plain("b", ofBool), plain("i", ofInt), plain("f", ofFloat), plain("t", ofText), plain("y", ofBytes), plain("o", optOf(ofInt)), plain("l", listOf(ofInt)))
	r := values(boolean(1), number(-5), float(0.5), text("é"), rawBytes("\xff"), opt(number(7)), list(number(1), number(2)))
	f := written(t, step{s, []api.Row{r}})
	l, e := f.Rows()
	mustTell(t, "Rows", l, e, told(0, 0, r), api.OK)
	l, e = f.As(s, nil)
	mustTell(t, "As", l, e, told(0, 0, r), api.OK)
	l, e = f.As(of(plain("t", ofBytes), plain("i", ofFloat), plain("l", listOf(optOf(ofFloat))), plain("o", ofFloat), plain("b", ofInt), with("n", ofBool, boolean(1))), nil)
	mustTell(t, "As", l, e, told(0, 0, values(rawBytes("é"), float(-5), list(opt(float(1)), opt(float(2))), float(7), number(1), boolean(1))), api.OK)
	for _, x := range []struct {
		c    api.Column
		want api.Errno
	}{{plain("f", ofInt), api.ErrLossy}, {plain("y", ofText), api.ErrUtf}, {plain("b", ofText), api.ErrKind}, {plain("l", ofInt), api.ErrKind}, {plain("x", ofInt), api.ErrMissing}} {
		l, e := f.As(of(x.c), nil)
		mustTell(t, "As", l, e, []api.Told{{E: x.want}}, api.OK)
	}
}

// TestAppendedNumbers: P0.1: the numbers of schemas: one more where the schema is another one than the last append's, whatever was changed to between; floats of defaults to the bit, all NaNs one.
func TestAppendedNumbers(t *testing.T) {
	zero, minus, nan, other := of(with("a", ofFloat, bits(0))), of(with("a", ofFloat, bits(1<<63))), of(with("a", ofFloat, bits(theNaN))), of(with("a", ofFloat, bits(0xfff8000000000001)))
	f := newFile(plenty)
	must(t, "Open", f.Open(zero), api.OK)
	var want []int64
	for _, x := range []struct {
		s      api.Schema
		number int64
	}{{zero, 0}, {zero, 0}, {minus, 1}, {zero, 2}, {nan, 3}, {other, 3}, {nan, 3}, {minus, 4}, {minus, 4}} {
		must(t, "Change", f.Change(texts), api.OK)
		must(t, "Change", f.Change(x.s), api.OK)
		must(t, "Append", f.Append(rows(float(1))), api.OK)
		want = append(want, x.number)
		if x.number == 2 {
			mustClose(t, f, true)
			must(t, "Open", f.Open(texts), api.OK)
		}
	}
	l, e := f.Rows()
	must(t, "Rows", e, api.OK)
	for k, one := range l {
		if one.Number != want[k] || one.At != int64(k) {
			t.Fatalf("row %d: %s, want the number %d", k, toldText(one), want[k])
		}
	}
}

// TestAppendedLong: P0.1: a file up to its quota: each append is taken as long as there is space for it, and all rows are read; then it is refused, and none is lost.
func TestAppendedLong(t *testing.T) {
	f := newFile(maxQuota)
	must(t, "Open", f.Open(blobs), api.OK)
	n := int64(0)
	for {
		l := rows(rawBytes(string(mixedBytes(uint64(n), 1000, 0))), rawBytes(string(mixedBytes(uint64(n)+1, 1000, 0))))
		before := f.Bytes()
		e := f.Append(l)
		if e == api.ErrNoSpace {
			if !bytes.Equal(f.Bytes(), before) || len(before) < maxQuota-4000 {
				t.Fatalf("a refused append changed the file, or was refused at %d bytes", len(before))
			}
			break
		}
		must(t, "Append", e, api.OK)
		n += 2
	}
	is, e := f.Close()
	l, why := f.Rows()
	if e != api.OK || why != api.OK || int64(len(l)) != n || n < 900 {
		t.Fatalf("Close %v, %d; %d rows, %d, want %d", is, e, len(l), why, n)
	}
	for k, one := range l {
		if k%2 == 0 && one.Row.Values[0].Text != string(mixedBytes(uint64(k), 1000, 0)) {
			t.Fatalf("row %d is another one", k)
		}
	}
}
