package repair_test

import (
	"bytes"
	"slices"
	"testing"

	"gabion/api"
	"gabion/dev"
	"gabion/repair"
	"gabion/scan"
)

// longFile is a whole file of n data frames and more, as writers lay it: a schema frame each eight data frames, now and then another schema or an index.
func longFile(n int) *laid {
	l := &laid{}
	schemas := []api.Schema{ints, texts, pairs, floats, nested}
	for i := range n {
		number := int64(i / 20)
		if i%8 == 0 || i%20 == 0 {
			l.schema(number, schemas[number%5])
		}
		l.data(1+i*11%64, string(mixedBytes(uint64(i), i*13%90, 6)))
		if i%23 == 22 {
			l.index()
		}
	}
	return l
}

// wholeFile is a whole file, and how many of its frames are to be kept, told by hand.
type wholeFile struct {
	laid
	kept int
}

// wholeFiles are whole files that end in each kind of frame.
func wholeFiles() []*wholeFile {
	var files []*wholeFile
	add := func(kept int, lay func(l *laid)) {
		f := &wholeFile{kept: kept}
		lay(&f.laid)
		files = append(files, f)
	}
	data := func(l *laid) { l.schema(0, ints); l.data(2, "\x00\x02\x04") }
	add(0, func(l *laid) {})
	add(0, func(l *laid) { l.schema(0, ints) })
	add(0, func(l *laid) { l.schema(0, ints); l.schema(0, ints); l.schema(1, floats); l.schema(2, nested) })
	add(1, func(l *laid) { l.index() })
	add(1, func(l *laid) { l.index(); l.schema(0, ints) })
	add(4, func(l *laid) {
		l.index()
		l.index()
		l.schema(0, ints)
		l.index()
		l.schema(0, ints)
		l.schema(1, ints)
	})
	add(2, data)
	add(3, func(l *laid) { data(l); l.data(1, "\x00\x02") })
	add(2, func(l *laid) { data(l); l.schema(0, ints) })
	add(2, func(l *laid) { data(l); l.schema(1, texts) })
	add(2, func(l *laid) { data(l); l.schema(0, ints); l.schema(1, texts); l.schema(1, texts); l.schema(2, pairs) })
	add(3, func(l *laid) { data(l); l.index() })
	add(4, func(l *laid) { data(l); l.index(); l.index() })
	add(3, func(l *laid) { data(l); l.index(); l.schema(0, ints) })
	add(4, func(l *laid) { data(l); l.schema(0, ints); l.data(64, ""); l.schema(0, ints); l.schema(1, floats) })
	add(4, func(l *laid) { data(l); l.schema(1, nested); l.index(); l.schema(1, nested) })
	add(5, func(l *laid) {
		l.schema(0, longSchema(1024))
		l.lay(fullFrame(maxFrame))
		l.index()
		l.data(9, string(row(0, 300)))
		l.data(9, string(row(7, 300)))
		l.schema(1, longSchema(1024))
	})
	for _, n := range []int{9, 23} {
		long := longFile(n)
		files = append(files, &wholeFile{*long, len(long.all)})
	}
	return files
}

// asLook holds Look against the words: what it answers, and that nothing changes.
func asLook(t *testing.T, d *dev.Dev) (int, words, api.Errno) {
	t.Helper()
	before := state(d)
	kept, want, wantE := wordLook(d.All())
	if !d.Up() {
		kept, want, wantE = 0, words{}, api.ErrDown
	}
	got, w, e := repair.Look(d)
	if got != kept || e != wantE || (w == nil) != (wantE != api.OK) {
		t.Fatalf("Look of %d bytes: %d, a walk: %v, %d, want %d, %d", d.Len(), got, w != nil, e, kept, wantE)
	}
	if w != nil {
		mustStand(t, w, want)
	}
	if state(d) != before {
		t.Fatalf("Look of %d bytes changed the file", d.Len())
	}
	return kept, want, e
}

// mustLook is asLook, with what is kept, or the error, told by hand.
func mustLook(t *testing.T, b []byte, l *laid, kept int, want api.Errno) {
	t.Helper()
	at, w, e := asLook(t, device(b))
	if e != want {
		t.Fatalf("Look of %d bytes: %d, want %d by hand", len(b), e, want)
	}
	if e == api.OK && (at != l.behind(kept) || standing(w) != standing(l.firstOf(kept))) {
		t.Fatalf("Look of %d bytes: %d and %d frames, want %d and %d by hand", len(b), at, len(w.all), l.behind(kept), kept)
	}
}

// TestLookDown: P15.1: of a file that is down ErrDown, whatever stands there, also where it would be ErrDamaged; behind Start as if it had never been.
func TestLookDown(t *testing.T) {
	l := longFile(9)
	for _, b := range [][]byte{nil, {0}, {5}, l.b, l.b[:50], l.b[1:], row(0, 50), encoded(schemaFrame(0, ints))} {
		d := device(b)
		takeDown(d)
		if _, _, e := asLook(t, d); e != api.ErrDown {
			t.Fatalf("of %d bytes: %d", len(b), e)
		}
		d.Start()
		if _, _, e := asLook(t, d); e == api.ErrDown {
			t.Fatalf("of %d bytes, up again: ErrDown", len(b))
		}
	}
}

// TestLookWhole: P15.1: whole files: kept is what stands ahead of schema frames at the end; a walk of no frames where none is left.
func TestLookWhole(t *testing.T) {
	for k, f := range wholeFiles() {
		if _, at, e := scan.Whole(device(f.b)); at != len(f.b) || e != api.ErrEnd {
			t.Fatalf("file %d is not whole: %d, %d", k, at, e)
		}
		mustLook(t, f.b, &f.laid, f.kept, api.OK)
	}
	kept, w, e := repair.Look(device(nil))
	if kept != 0 || e != api.OK || standing(w) != standing(scan.New()) {
		t.Fatalf("of no bytes: %d, %d, %s", kept, e, standing(w))
	}
}

// TestLookWalk: P15.1: what the walk tells, by hand: nothing of the schema frames that go, neither a number, nor a place, nor that they ended the rows behind the one ahead.
func TestLookWalk(t *testing.T) {
	l := &laid{}
	l.schema(0, ints)
	for range 6 {
		l.data(3, "\x00\x02")
	}
	l.schema(1, texts)
	l.data(5, "\x00\x02")
	l.data(6, "\x00\x02")
	end := len(l.b)
	want := []api.Entry{entry(l.all[1].at, 0, 0), entry(l.all[5].at, 12, 0)}
	for _, closed := range []bool{false, true} {
		if closed {
			l.index()
			end = len(l.b)
		}
		tail := join(encoded(schemaFrame(1, texts)), encoded(schemaFrame(2, pairs)), row(0, 1), row(5, 9))
		kept, w, e := repair.Look(device(join(l.b, tail)))
		if kept != end || e != api.OK {
			t.Fatalf("%d, %d, want %d", kept, e, end)
		}
		if w.Frames() != 8 || w.Rows() != 29 || w.Number() != 1 || w.Since() != 2 || w.Closed() != closed || !slices.Equal(w.Entries(), want) {
			t.Fatalf("%d, %d, %d, %d, %v, %v", w.Frames(), w.Rows(), w.Number(), w.Since(), w.Closed(), w.Entries())
		}
		for number, place := range []int{0, int(l.all[7].at), -1} {
			at, is := w.Place(int64(number))
			s, known := w.Schema(int64(number))
			if is != (place >= 0) || known != is || at != max(0, place) || schemaText(s) != schemaText([]api.Schema{ints, texts, {}}[number]) {
				t.Fatalf("the schema %d: %d, %v, %v, %s", number, at, is, known, schemaText(s))
			}
		}
		if w.Next(schemaFrame(2, nested), end) != api.OK || w.Next(dataFrame(2, 8, 29, 1, ""), end+9) != api.OK || w.Frames() != 9 {
			t.Fatalf("the walk does not go on")
		}
	}
}

// TestLookCut: P15.1, P15.3: the first bytes of whole files, up to each place: never ErrDamaged; kept are the frames that are whole there, but schema frames at the end.
func TestLookCut(t *testing.T) {
	for _, f := range wholeFiles() {
		frames := 0
		for n := range len(f.b) + 1 {
			for frames < len(f.all) && f.behind(frames+1) <= n {
				frames++
			}
			mustLook(t, f.b[:n], &f.laid, f.keptOf(frames), api.OK)
		}
	}
}

// TestLookChanged: P15.1: one byte changed, in each frame, of long ones in some places: ErrDamaged, if a frame stands behind it; else the frames ahead of it are kept.
func TestLookChanged(t *testing.T) {
	for _, f := range wholeFiles() {
		for i := range f.all {
			for at := f.behind(i); at < f.behind(i+1); at++ {
				if fromEdge := min(at-f.behind(i), f.behind(i+1)-1-at); fromEdge > 20 && at%13 > 0 {
					continue
				}
				for _, to := range []byte{f.b[at] ^ 1, f.b[at] ^ 128, 0, ^f.b[at]} {
					if to == f.b[at] {
						continue
					}
					b := bytes.Clone(f.b)
					b[at] = to
					if i < len(f.all)-1 {
						mustLook(t, b, &f.laid, 0, api.ErrDamaged)
					} else {
						mustLook(t, b, &f.laid, f.keptOf(i), api.OK)
					}
				}
			}
		}
	}
}

// TestLookBehind: P15.1: a byte more behind a whole file; a frame more, without one of its fences, that follows, and such that don't.
func TestLookBehind(t *testing.T) {
	for _, f := range wholeFiles() {
		for c := range 256 {
			mustLook(t, append(bytes.Clone(f.b), byte(c)), &f.laid, f.kept, api.OK)
		}
		own := encoded(f.ownIndex(int64(len(f.b))))
		mustLook(t, join(f.b, own[1:]), &f.laid, f.kept, api.OK)
		mustLook(t, join(f.b, own[:len(own)-1]), &f.laid, f.kept, api.OK)
		more := laid{words{slices.Clone(f.all)}, bytes.Clone(f.b)}
		more.index()
		mustLook(t, join(f.b, own), &more, len(more.all), api.OK)
		for _, x := range []api.Frame{
			schemaFrame(f.Number()+2, ints), schemaFrame(f.Number()+1<<30, ints), dataFrame(f.Number()+1, f.Frames(), f.Rows(), 1, ""), dataFrame(max(0, f.Number()), f.Frames()+1, f.Rows(), 1, ""), dataFrame(max(0, f.Number()), f.Frames(), f.Rows()+1, 1, ""),
			f.ownIndex(int64(len(f.b)) + 1), indexFrame(int64(len(f.b)), f.Frames()+1, f.Rows(), f.Entries()...), indexFrame(int64(len(f.b)), f.Frames(), f.Rows(), append(f.Entries(), entry(0, 0, 0))...),
		} {
			mustLook(t, join(f.b, encoded(x)), nil, 0, api.ErrDamaged)
			mustLook(t, join(f.b, encoded(x)[1:]), &f.laid, f.kept, api.OK)
		}
		if f.Number() >= 0 {
			mustLook(t, join(f.b, encoded(schemaFrame(f.Number(), longSchema(300)))), nil, 0, api.ErrDamaged)
		}
	}
}

// endings are bytes at which scan.Whole ends, none of whose runs is a frame, and why it ends there.
func endings() []struct {
	b    []byte
	want api.Errno
} {
	return []struct {
		b    []byte
		want api.Errno
	}{
		{row(5, 1), api.ErrFence}, {row(5, 5000), api.ErrFence}, {[]byte{5, 0}, api.ErrFence}, {encoded(schemaFrame(0, ints))[1:], api.ErrFence},
		{row(0, 2), api.ErrEmpty}, {row(0, 5000), api.ErrEmpty}, {[]byte{0, 0, 5, 0}, api.ErrEmpty},
		{fenced(string(row(1, maxFrame+1))), api.ErrLong}, {fenced(string(row(5, 9000))), api.ErrLong}, {fenced(runOf("\x01\x00" + string(row(1, 1025)))), api.ErrLong},
		{fenced("\x01"), api.ErrShort}, {fenced("\x05"), api.ErrShort}, {fenced("\x05\x01\x02\x03\x04"), api.ErrShort}, {fenced(runOf("\x01\x00")), api.ErrShort},
		{fenced("\xff" + string(row(7, 254)) + "\x01"), api.ErrForm}, {fenced(runOf("\x02\x80\x00")), api.ErrForm}, {fenced(runOf("\x02\x00\x00\x00\x00")), api.ErrForm}, {fenced(runOf("\x03\x00\x00\x00\x00\x00")), api.ErrForm},
		{fenced("\x06\x01\x02\x03\x04\x05"), api.ErrSum}, {fenced(string(row(1, maxFrame))), api.ErrSum},
		{fenced(runOf("\x04")), api.ErrKind}, {fenced(runOf("\x00")), api.ErrKind}, {fenced(runOf("\x01\x00\x01\x01a\x08")), api.ErrKind},
		{fenced(runOf("\x01\x00\x00")), api.ErrEmpty}, {fenced(runOf("\x01\x00\x11")), api.ErrMany}, {fenced(runOf("\x01\x00\x01\x00")), api.ErrName}, {fenced(runOf("\x01\x00\x02\x01a\x02\x00\x01a")), api.ErrTwice},
		{fenced(runOf("\x01\x00\x01\x01a\x07\x07\x07\x07")), api.ErrDeep}, {fenced(runOf("\x01\x00\x01\x01a\x04\x01\x01\xff")), api.ErrUtf},
	}
}

// TestLookErrors: P15.1: each error for which scan.Whole ends, but ErrEnd: with a frame among the runs from there on, at once, behind noise, among others and as the last one, ErrDamaged; without one all of that goes.
func TestLookErrors(t *testing.T) {
	var noise [][]byte
	for _, x := range endings() {
		noise = append(noise, x.b)
	}
	refused := bytes.Join(noise, row(5, 1)) // lest the fence of one opens a run with the next
	frames := [][]byte{encoded(schemaFrame(0, ints)), encoded(schemaFrame(1<<31-1, nested)), encoded(dataFrame(7, 7, 7, 7, "")), encoded(fullFrame(maxFrame)), encoded(indexFrame(0, 0, 0))}
	for _, f := range []*wholeFile{wholeFiles()[0], wholeFiles()[2], wholeFiles()[11], wholeFiles()[15]} {
		for _, x := range endings() {
			if _, at, e := scan.Whole(device(join(f.b, x.b))); at != len(f.b) || e != x.want {
				t.Fatalf("%.20x behind it: %d, %d, want %d", x.b, at, e, x.want)
			}
			for _, behind := range [][]byte{nil, {0}, {5}, row(0, 3000), row(5, 3000), refused, frames[0][1:], frames[0][:len(frames[0])-1]} {
				mustLook(t, join(f.b, x.b, row(5, 1), behind), &f.laid, f.kept, api.OK)
			}
			for _, one := range frames {
				for _, behind := range [][]byte{one, join(row(7, 30), one), join(refused, one), join(refused, one, refused), join(one, row(0, 9000)), join(one, row(9, 9000)), join(row(0, 3), one[1:])} {
					mustLook(t, join(f.b, x.b, behind), nil, 0, api.ErrDamaged)
				}
			}
		}
	}
}

// TestLookTorn: P15.1: behind a fence that no other one follows there is no run, whatever stands there: of ErrTorn all goes; one fence more, and it is a frame.
func TestLookTorn(t *testing.T) {
	one := encoded(dataFrame(7, 7, 7, 7, ""))
	for _, f := range wholeFiles() {
		for _, b := range [][]byte{{0}, {0, 5}, join(row(0, 1), row(5, maxFrame)), one[:len(one)-1]} {
			if _, at, e := scan.Whole(device(join(f.b, b))); at != len(f.b) || e != api.ErrTorn {
				t.Fatalf("%.20x behind it: %d, %d", b, at, e)
			}
			mustLook(t, join(f.b, b), &f.laid, f.kept, api.OK)
		}
		mustLook(t, join(f.b, one), nil, 0, api.ErrDamaged)
	}
}

// TestLookRunsFromTheEnd: P15.1: the runs are those of the bytes from the end on: the fence ahead of it opens none.
func TestLookRunsFromTheEnd(t *testing.T) {
	one := encoded(dataFrame(7, 7, 7, 7, "xyz"))
	for _, f := range wholeFiles() {
		mustLook(t, join(f.b, one[1:]), &f.laid, f.kept, api.OK)
		mustLook(t, join(f.b, one[1:], one[1:]), nil, 0, api.ErrDamaged)
		mustLook(t, join(f.b, row(5, 1), one), nil, 0, api.ErrDamaged)
	}
}

// TestLookNoise: P15.1: any bytes: noise without frames goes, all of it.
func TestLookNoise(t *testing.T) {
	l := &laid{}
	for k := range uint64(200) {
		mustLook(t, mixedBytes(k, int(mixed(k)%3000), []uint64{1, 2, 3, 20, 500, 0}[k%6]), l, 0, api.OK)
	}
	for k := range 256 {
		mustLook(t, []byte{byte(k)}, l, 0, api.OK)
		mustLook(t, []byte{0, byte(k)}, l, 0, api.OK)
		mustLook(t, []byte{0, byte(k), 0}, l, 0, api.OK)
	}
}

// TestLookBound: P15.1: where power is bound to fail, Look does no deed, and forgets nothing of that.
func TestLookBound(t *testing.T) {
	l := longFile(5)
	for _, b := range [][]byte{nil, l.b, join(l.b, row(5, 9)), l.b[5:], encoded(schemaFrame(0, ints))} {
		d := device(b)
		d.Fail(1, 0)
		for range 3 {
			if _, _, e := asLook(t, d); e == api.ErrDown || !d.Up() {
				t.Fatalf("of %d bytes: %d", len(b), e)
			}
		}
		if d.Write([]byte{1}) != api.OK || d.Write([]byte{2}) != api.ErrPower || d.Len() != len(b) {
			t.Fatalf("of %d bytes: power was bound to fail behind one deed", len(b))
		}
	}
}

// TestLookGreat: P15.1: of files as long as a file may be it ends.
func TestLookGreat(t *testing.T) {
	one := encoded(schemaFrame(0, ints))
	many := bytes.Repeat(one, 2*api.MaxQuota/len(one))
	if kept, w, e := repair.Look(device(many)); kept != 0 || e != api.OK || w.Number() != -1 {
		t.Fatalf("many schema frames: %d, %d", kept, e)
	}
	if _, _, e := repair.Look(device(many[1:])); e != api.ErrDamaged {
		t.Fatalf("behind what is none: %d", e)
	}
	first := encoded(dataFrame(0, 0, 0, 1, ""))
	if kept, w, e := repair.Look(device(join(one, first, many[:len(many)-10*len(one)]))); kept != len(one)+len(first) || e != api.OK || w.Frames() != 1 || w.Since() != 1 {
		t.Fatalf("behind a data frame: %d, %d", kept, e)
	}
	for _, b := range [][]byte{bytes.Repeat([]byte{0, 5}, api.MaxQuota), row(0, 2*api.MaxQuota), row(5, 2*api.MaxQuota), bytes.Repeat(join(row(0, 1), row(5, maxFrame+1)), 900)} {
		if kept, w, e := repair.Look(device(b)); kept != 0 || e != api.OK || w.Number() != -1 {
			t.Fatalf("noise: %d, %d", kept, e)
		}
	}
	var numbered []byte
	for n := int64(0); len(numbered) < 2*api.MaxQuota-100; n++ {
		numbered = append(append(numbered, encoded(schemaFrame(n, ints))...), encoded(dataFrame(n, n, n, 1, ""))...)
	}
	if kept, w, e := repair.Look(device(numbered)); kept != len(numbered) || e != api.OK || w.Number() != w.Frames()-1 {
		t.Fatalf("as many schemas as data frames: %d, %d", kept, e)
	}
}
