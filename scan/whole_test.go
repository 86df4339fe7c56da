package scan_test

import (
	"bytes"
	"slices"
	"testing"

	"gabion/api"
	"gabion/dev"
	"gabion/scan"
)

// longFile is a whole file of n data frames and more, as writers lay it: a schema frame each eight data frames, now and then another schema or an index.
func longFile(n int) *laid {
	l := &laid{}
	schemas := []api.Schema{ints, texts, pairs, floats, nested}
	for i := range n {
		number := int64(i / 20)
		if i%8 == 0 || i%20 == 0 {
			l.schema(number, schemas[number%5])
		}
		l.data(1+i*11%64, string(mixedBytes(uint64(i), i*13%90, 6)))
		if i%23 == 22 {
			l.index()
		}
	}
	l.index()
	return l
}

// wholeFiles are whole files of all kinds.
func wholeFiles() []*laid {
	var files []*laid
	add := func(lay func(l *laid)) {
		l := &laid{}
		lay(l)
		files = append(files, l)
	}
	add(func(l *laid) {})
	add(func(l *laid) { l.schema(0, ints) })
	add(func(l *laid) { l.index() })
	add(func(l *laid) { l.index(); l.index(); l.schema(0, ints); l.index() })
	add(func(l *laid) { l.schema(0, ints); l.data(2, "\x00\x02\x04"); l.data(1, "\x00\x02") })
	add(func(l *laid) { l.schema(0, ints); l.data(2, "\x00\x02\x04"); l.index() })
	add(func(l *laid) {
		l.schema(0, ints)
		l.schema(0, ints)
		l.schema(1, texts)
		l.schema(1, texts)
		l.data(64, "")
	})
	add(func(l *laid) {
		l.schema(0, floats)
		l.data(1, "")
		l.index()
		l.schema(1, nested)
		l.data(5, string(row(0, 300)))
		l.index()
		l.data(6, string(row(7, 300)))
	})
	add(func(l *laid) { l.schema(0, longSchema(1024)); l.lay(fullFrame(maxFrame)); l.index() })
	return append(files, longFile(3), longFile(9), longFile(30))
}

// asWhole holds Whole against the words: what it answers, how much it reads, and that nothing else changes.
func asWhole(t *testing.T, d *dev.Dev) (words, int, api.Errno) {
	t.Helper()
	b, before, counted := d.All(), state(d), d.Counted()
	want, wantAt, wantE, read := wordWhole(b)
	w, at, e := scan.Whole(d)
	if w == nil || at != wantAt || e != wantE {
		t.Fatalf("Whole of %d bytes: a walk %v, %d, %d, want %d, %d", len(b), w != nil, at, e, wantAt, wantE)
	}
	(&pair{w, want}).stands(t)
	if d.Counted()-counted != read || state(d) != before {
		t.Fatalf("Whole of %d bytes: %d bytes read, want %d; the file is the same: %v", len(b), d.Counted()-counted, read, state(d) == before)
	}
	return want, at, e
}

// TestWhole: P14.5, P14.6: of whole files their length and ErrEnd, and what all their frames came to.
func TestWhole(t *testing.T) {
	for k, l := range wholeFiles() {
		w, at, e := asWhole(t, device(l.b))
		if at != len(l.b) || e != api.ErrEnd || len(w.all) != len(l.all) {
			t.Fatalf("file %d: %d of %d frames, %d of %d bytes, %d", k, len(w.all), len(l.all), at, len(l.b), e)
		}
	}
	l := longFile(300)
	if w, at, e := asWhole(t, device(l.b)); at != len(l.b) || e != api.ErrEnd || w.Frames() != 300 || len(w.Entries()) != 64 {
		t.Fatalf("a long file: %d, %d", at, e)
	}
}

// TestWholeDown: P14.5: of a file that is down no walk, 0 and ErrDown; nothing is read; behind Start as if it had never been.
func TestWholeDown(t *testing.T) {
	for _, b := range [][]byte{nil, {0}, {5}, longFile(9).b, row(0, 50)} {
		d := device(b)
		takeDown(d)
		before := state(d)
		w, at, e := scan.Whole(d)
		if w != nil || at != 0 || e != api.ErrDown || d.Counted() != 0 || state(d) != before {
			t.Fatalf("of a file that is down: a walk %v, %d, %d, %d bytes read", w != nil, at, e, d.Counted())
		}
		d.Start()
		asWhole(t, d)
	}
}

// TestWholeCut: P14.5: a file cut at each place: the frames that are whole there; at the end of one ErrEnd, else ErrTorn at its beginning.
func TestWholeCut(t *testing.T) {
	for k, l := range wholeFiles() {
		end, frames := 0, 0
		for n := range len(l.b) + 1 {
			for frames < len(l.all) && l.behind(frames) <= n {
				end = l.behind(frames)
				frames++
			}
			want := api.ErrTorn
			if n == end {
				want = api.ErrEnd
			}
			w, at, e := asWhole(t, device(l.b[:n]))
			if at != end || e != want || len(w.all) != frames {
				t.Fatalf("file %d, %d of %d bytes: %d frames, %d, %d, want %d, %d, %d", k, n, len(l.b), len(w.all), at, e, frames, end, want)
			}
		}
	}
}

// TestWholeChanged: P14.5: one byte changed, in each place of each frame: the frames ahead of it, its place, an error that is not ErrEnd.
func TestWholeChanged(t *testing.T) {
	for k, l := range wholeFiles() {
		for i, one := range l.all {
			for at := int(one.at); at < l.behind(i); at++ {
				for _, by := range []byte{1, 128, l.b[at], 255} {
					b := bytes.Clone(l.b)
					b[at] ^= by
					if b[at] == l.b[at] {
						continue
					}
					w, end, e := asWhole(t, device(b))
					if end != int(one.at) || e == api.ErrEnd || len(w.all) != i {
						t.Fatalf("file %d, byte %d of the frame %d: %d frames, %d, %d", k, at-int(one.at), i, len(w.all), end, e)
					}
				}
			}
		}
	}
}

// TestWholeErrors: P14.5: each error that ends it, told by hand.
func TestWholeErrors(t *testing.T) {
	l := longFile(6)
	frames := len(l.all)
	for _, x := range []struct {
		behind []byte
		want   api.Errno
	}{
		{nil, api.ErrEnd}, {[]byte{5}, api.ErrFence}, {[]byte{5, 0}, api.ErrFence}, {[]byte{0}, api.ErrTorn}, {[]byte{0, 5}, api.ErrTorn}, {[]byte{0, 0}, api.ErrEmpty}, {row(0, 5000), api.ErrEmpty},
		{join(row(0, 1), row(5, maxFrame)), api.ErrTorn}, {join(row(0, 1), row(5, maxFrame+1)), api.ErrLong}, {join(row(0, 1), row(5, maxFrame+1), row(0, 1)), api.ErrLong}, {join(row(0, 1), row(1, maxFrame), row(0, 1)), api.ErrSum},
		{encoded(dataFrame(0, 5, 0, 1, "")), api.ErrOrder}, {encoded(schemaFrame(2, ints)), api.ErrOrder}, {l.b[l.all[1].at:], api.ErrOrder}, {encoded(l.all[frames-1].f), api.ErrOrder},
	} {
		w, at, e := asWhole(t, device(join(l.b, x.behind)))
		if at != len(l.b) || e != x.want || len(w.all) != frames {
			t.Fatalf("%.20x behind it: %d frames, %d, %d, want %d", x.behind, len(w.all), at, e, x.want)
		}
	}
	for run, want := range decodeErrors() {
		if _, at, e := asWhole(t, device(join(l.b, fenced([]byte(run)), l.b))); at != len(l.b) || e != want {
			t.Fatalf("%.20x behind it: %d, %d, want %d", run, at, e, want)
		}
		if _, at, e := asWhole(t, device(fenced([]byte(run)))); at != 0 || e != want {
			t.Fatalf("%.20x at the beginning: %d, %d, want %d", run, at, e, want)
		}
	}
}

// pieces are the bytes of a file's frames, one by one.
func pieces(l *laid) [][]byte {
	var p [][]byte
	for i, one := range l.all {
		p = append(p, l.b[one.at:l.behind(i)])
	}
	return p
}

// TestWholeOrder: P14.5: frames that are whole, but one of them gone, twice, or in another place: it ends at the first that does not follow.
func TestWholeOrder(t *testing.T) {
	refused := 0
	for _, l := range wholeFiles() {
		p := pieces(l)
		for i := range p {
			for _, q := range [][][]byte{slices.Delete(slices.Clone(p), i, i+1), slices.Insert(slices.Clone(p), i, p[i]), append(slices.Clone(p), p[i]), slices.Insert(slices.Clone(p), 0, p[i])} {
				if _, _, e := asWhole(t, device(join(q...))); e == api.ErrOrder {
					refused++
				}
			}
			for j := range i {
				q := slices.Clone(p)
				q[i], q[j] = q[j], q[i]
				asWhole(t, device(join(q...)))
			}
		}
	}
	if refused < 150 {
		t.Fatalf("only %d files with a frame that does not follow", refused)
	}
}

// TestWholeNoise: P14.5: any bytes at all.
func TestWholeNoise(t *testing.T) {
	for k := range uint64(200) {
		asWhole(t, device(mixedBytes(k, int(mixed(k)%3000), []uint64{1, 2, 3, 20, 500, 0}[k%6])))
	}
	for k := range 256 {
		asWhole(t, device([]byte{byte(k)}))
		asWhole(t, device([]byte{0, byte(k)}))
		asWhole(t, device([]byte{0, byte(k), 0}))
	}
}

// TestWholeGreat: P14.5: of a file as long as a file may be it ends, and tells its length.
func TestWholeGreat(t *testing.T) {
	var b []byte
	one := encoded(schemaFrame(0, ints))
	for len(b)+len(one) <= 2*api.MaxQuota {
		b = append(b, one...)
	}
	w, at, e := scan.Whole(device(b))
	if at != len(b) || e != api.ErrEnd || w.Number() != 0 {
		t.Fatalf("many schema frames: %d of %d, %d", at, len(b), e)
	}
	if place, is := w.Place(0); place != len(b)-len(one) || !is {
		t.Fatalf("Place %d, %v", place, is)
	}
	b = one
	n := int64(0)
	for {
		more := encoded(dataFrame(0, n, 64*n, 64, string(row(7, 2000))))
		if len(b)+len(more) > 2*api.MaxQuota {
			break
		}
		b = append(b, more...)
		n++
	}
	w, at, e = scan.Whole(device(b))
	if at != len(b) || e != api.ErrEnd || w.Frames() != n || w.Rows() != 64*n || w.Since() != int(n) || len(w.Entries()) != 64 {
		t.Fatalf("many data frames: %d of %d, %d, %d of %d frames", at, len(b), e, w.Frames(), n)
	}
}
