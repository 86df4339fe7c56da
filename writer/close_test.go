package writer_test

import (
	"bytes"
	"math"
	"testing"

	"gabion/api"
	"gabion/dev"
	"gabion/index"
)

// TestClose: P19.4: behind each number of appends: an index at the file's end, which is fresh; all is synced; it is not open any more.
func TestClose(t *testing.T) {
	steps := script()
	for k := range len(steps) + 1 {
		p := empty(t, ints)
		p.do(steps[:k]...)
		was, kinds := p.d.Len(), p.kinds()
		p.Close(true, api.OK)
		if p.kinds() != kinds+"X" || p.d.Synced() != p.d.Len() || p.place(len(kinds)) != was {
			t.Fatalf("%s, %d of %d synced", p.kinds(), p.d.Synced(), p.d.Len())
		}
		x, is, e := index.Last(p.d.Clone())
		if !is || e != api.OK || x.At != int64(was) || x.Frames != int64(k) || x.Rows != p.w.Rows() || len(x.Entries) != (k+3)/4 {
			t.Fatalf("%d appends: %v, %v, %d", k, x, is, e)
		}
		p.mustBeShut()
		p.mustStand(kinds+"X", int64(k), p.rows(), p.number())
		p.mustRead()
	}
}

// TestCloseEntries: P19.4: the entries, told by hand: of the first of each four data frames its place, its first row, its schema frame's place; no more than 64 of them.
func TestCloseEntries(t *testing.T) {
	p := empty(t, ints)
	p.Append(numbers(1, 2, 3), api.OK)
	for range 4 {
		p.Append(numbers(5), api.OK)
	}
	p.Change(two, api.OK)
	for range 4 {
		p.Append([]api.Row{someRow(two), someRow(two)}, api.OK)
	}
	p.Close(true, api.OK)
	if p.kinds() != "SDDDDDSDDDDX" {
		t.Fatalf("%s", p.kinds())
	}
	b := p.d.All()
	f := p.all[11].f
	want := indexFrame(int64(p.place(11)), 9, 15, entry(int64(p.place(1)), 0, 0), entry(int64(p.place(5)), 6, 0), entry(int64(p.place(10)), 13, int64(p.place(6))))
	if !bytes.Equal(encoded(f), encoded(want)) || !bytes.HasSuffix(b, encoded(want)) {
		t.Fatalf("%v, want %v", f.Index, want.Index)
	}
	for _, n := range []int{252, 253, 256, 257, 270} {
		p := begin(t, device(plainFile(n-1).b), ints)
		p.Append(numbers(1), api.OK)
		p.Close(true, api.OK)
		x, is, _ := index.Last(p.d.Clone())
		if !is || x.Frames != int64(n) || len(x.Entries) != min(64, (n+3)/4) {
			t.Fatalf("%d data frames: %d, %d entries", n, x.Frames, len(x.Entries))
		}
	}
}

// TestCloseNothing: P19.4: of a file of no frames an index of nothing; opened again, and closed, there is none more.
func TestCloseNothing(t *testing.T) {
	want := fencedOf("\x03\x00\x00\x00\x00")
	p := empty(t, ints)
	p.Close(true, api.OK)
	if !bytes.Equal(p.d.All(), want) || p.d.Synced() != len(want) {
		t.Fatalf("%x, want %x", p.d.All(), want)
	}
	p.mustBeShut()
	p.mustStand("X", 0, 0, 0)
	for range 3 {
		p.Open(two, api.OK)
		p.Close(false, api.OK)
		p.mustStand("X", 0, 0, 0)
	}
	p.Open(ints, api.OK)
	p.Append(numbers(1), api.OK)
	p.Close(true, api.OK)
	p.mustStand("XSDX", 1, 1, 0)
}

// TestCloseClosed: P19.4: where the last frame is an index none is written, whoever wrote that, but all is synced; behind an append there is one again.
func TestCloseClosed(t *testing.T) {
	for _, n := range []int{0, 1, 8, 9} {
		l := &laid{}
		if n > 0 {
			l = plainFile(n)
		}
		l.index()
		for _, tail := range [][]byte{nil, encoded(schemaFrame(l.last1()+1, two)), row(5, 30), encoded(l.ownIndex(int64(len(l.b))))[:4]} {
			d, _ := dev.New(plenty)
			d.Write(join(l.b, tail))
			p := begin(t, d, ints)
			if d.Synced() != 0 {
				t.Fatalf("an Open synced the file")
			}
			written := d.Written()
			p.Close(false, api.OK)
			if d.Len() != len(l.b) || d.Synced() != len(l.b) || d.Written() != written {
				t.Fatalf("%d bytes of %d, %d synced", d.Len(), len(l.b), d.Synced())
			}
			p.mustBeShut()
			p.Open(ints, api.OK)
			p.Change(two, api.OK)
			p.Close(false, api.OK)
			p.Open(ints, api.OK)
			p.Append(numbers(1), api.OK)
			p.Close(true, api.OK)
			p.Open(ints, api.OK)
			p.Append(nil, api.ErrEmpty)
			p.Close(false, api.OK)
		}
	}
}

// last1 is the last schema's number.
func (w words) last1() int64 {
	n, _ := w.last()
	return n
}

// TestCloseSpace: P19.4: an index that would go beyond the quota by one byte, or more, is not written, and that is no error; all is synced; one that just fits is.
func TestCloseSpace(t *testing.T) {
	steps := script()
	for _, k := range []int{0, 1, 4, 5, 9, 20, len(steps)} {
		p := empty(t, ints)
		p.do(steps[:k]...)
		was := p.d.Len()
		p.Close(true, api.OK)
		size := p.d.Len() - was
		for less := range size + 1 {
			d, _ := dev.New(was + size - less)
			q := begin(t, d, ints)
			q.do(steps[:k]...)
			q.Close(less == 0, api.OK)
			want := was
			if less == 0 {
				want += size
			}
			if d.Len() != want || d.Synced() != want || !d.Up() {
				t.Fatalf("%d appends, %d bytes too few: %d bytes, want %d, %d synced", k, less, d.Len(), want, d.Synced())
			}
			q.mustBeShut()
		}
	}
}

// TestClosePower: P19.4: power fails within the index, whatever is kept: false, ErrPower, and it is not open any more; opened again, the file has all that was synced, and goes on.
func TestClosePower(t *testing.T) {
	for _, k := range []int{0, 1, 5, 9} {
		for after := 0; ; after++ {
			done := false
			for _, keep := range []int{0, 1, after, math.MaxInt} {
				p := empty(t, ints)
				p.do(script()[:k]...)
				p.Sync(api.OK)
				was, kinds := p.d.Len(), p.kinds()
				p.fail(after, keep)
				is, e := p.close1()
				if done = e == api.OK; done {
					if !is || after != p.d.Len()-was {
						t.Fatalf("an index of %d bytes: %v, and power fails behind %d", p.d.Len()-was, is, after)
					}
					break
				}
				if is || e != api.ErrPower || p.d.Up() || p.d.Len() != was+min(after, keep) {
					t.Fatalf("%v, %d, up %v, %d bytes", is, e, p.d.Up(), p.d.Len())
				}
				p.mustBeShut()
				p.mustStand(kinds, int64(k), p.rows(), 0)
				p.start()
				p.mustBeShut()
				p.Open(ints, api.OK)
				p.mustStand(kinds, int64(k), p.rows(), 0)
				p.Close(true, api.OK)
				p.mustRead()
			}
			if done {
				break
			}
		}
	}
}

// TestClosePowerUnsynced: P19.4: it syncs behind the index, not ahead of it: where power fails within that, what was not synced is lost as far as it is not kept.
func TestClosePowerUnsynced(t *testing.T) {
	steps := script()[:6]
	was := lenOf(steps, t)
	for keep := range was + 6 {
		p := empty(t, ints)
		p.do(steps...)
		p.fail(4, keep)
		p.Close(false, api.ErrPower)
		if p.d.Synced() != 0 || p.d.Len() != min(keep, was+4) {
			t.Fatalf("keep %d: %d bytes, %d synced", keep, p.d.Len(), p.d.Synced())
		}
		p.mustStand("SDDDDDD", 6, 18, 0)
		p.start()
		p.Open(ints, api.OK)
		p.mustRead()
	}
}

// TestCloseNoDeed: P19.4: where no index is written there is no deed, and power that is bound to fail does not.
func TestCloseNoDeed(t *testing.T) {
	l := plainFile(3)
	full := begin(t, deviceOf(len(l.b)+3, l.b), ints)
	full.fail(0, 0)
	full.Close(false, api.OK)
	l.index()
	closed := begin(t, device(l.b), ints)
	closed.fail(0, 0)
	closed.Close(false, api.OK)
	if !full.d.Up() || !closed.d.Up() {
		t.Fatalf("power failed")
	}
}

// TestCloseDown: P19.4: of a file that is down false and ErrDown, whether an index were written or not; it is not open any more, also behind Start.
func TestCloseDown(t *testing.T) {
	l := plainFile(3)
	indexed := plainFile(3)
	indexed.index()
	for _, d := range []*dev.Dev{device(nil), device(l.b), device(indexed.b), deviceOf(0, l.b), deviceOf(0, nil), deviceOf(len(l.b)+3, l.b)} {
		p := begin(t, d, ints)
		kinds, frames := p.kinds(), p.w.Frames()
		p.down()
		p.Close(false, api.ErrDown)
		p.mustBeShut()
		p.start()
		p.mustBeShut()
		p.mustStand(kinds, frames, frames, 0)
	}
}

// TestCloseShut: P19.4: not open: false and ErrState, and nothing is written or synced.
func TestCloseShut(t *testing.T) {
	p := empty(t, ints)
	p.Append(numbers(1), api.OK)
	p.fail(2, 100)
	p.Append(numbers(1), api.ErrPower)
	p.start()
	before := state(p.d)
	p.Close(false, api.ErrState)
	if state(p.d) != before || p.d.Synced() != 0 {
		t.Fatalf("a Close that was refused changed the file")
	}
	p.Open(ints, api.OK)
	p.Close(true, api.OK)
	before = state(p.d)
	p.Close(false, api.ErrState)
	if state(p.d) != before {
		t.Fatalf("a second Close changed the file")
	}
}

// TestCloseChanged: P19.4, P19.5: a schema that was changed to, and not written: the index alone is written; its number is told behind it, too.
func TestCloseChanged(t *testing.T) {
	p := empty(t, ints)
	p.Append(numbers(1), api.OK)
	p.Change(two, api.OK)
	p.Close(true, api.OK)
	p.mustStand("SDX", 1, 1, 1)
	p.Open(two, api.OK)
	p.mustStand("SDX", 1, 1, 1)
	p.Append([]api.Row{someRow(two)}, api.OK)
	p.mustStand("SDXSD", 2, 2, 1)
	p.Close(true, api.OK)
	p.mustStand("SDXSDX", 2, 2, 1)
}

// TestSeekIsShort: P0.6: behind a Close that wrote its index, of a file of 256 data frames, a seek reads few bytes up to its first row.
func TestSeekIsShort(t *testing.T) {
	d, _ := dev.New(api.MaxQuota)
	l := rows(rawBytes(string(mixedBytes(1, 1022, 3))), rawBytes(string(mixedBytes(2, 1022, 0))))
	p := twinsOf(t, d)
	p.Open(blobs, api.OK)
	for range 256 {
		if e := p.w.Append(l); e != api.OK {
			t.Fatalf("%d", e)
		}
	}
	if is, e := p.w.Close(); !is || e != api.OK {
		t.Fatalf("Close: %v, %d", is, e)
	}
	for n := range int64(512) {
		was := d.Counted()
		r, e := index.Seek(d, n)
		if e != api.OK {
			t.Fatalf("Seek(%d): %d", n, e)
		}
		one, is := r.Next()
		if !is || one.At != n || rowsText([]api.Row{one.Row}) != rowsText(l[n%2:n%2+1]) {
			t.Fatalf("Seek(%d) tells row %d, %v", n, one.At, is)
		}
		if read := d.Counted() - was; read > (4+8+3)*2202 {
			t.Fatalf("Seek(%d) read %d bytes", n, read)
		}
	}
}
