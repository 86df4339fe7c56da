package scan_test

import (
	"bytes"
	"encoding/binary"
	"hash/crc32"
	"math"
	"slices"
	"testing"

	"gabion/api"
	"gabion/dev"
	"gabion/frame"
	"gabion/scan"
	"gabion/stuff"
)

func join(l ...[]byte) []byte { return bytes.Join(l, nil) }

func row(c byte, n int) []byte { return bytes.Repeat([]byte{c}, n) }

func fenced(run []byte) []byte { return join(row(0, 1), run, row(0, 1)) }

// runOf is a run: a kind and its fields, with their right check, stuffed.
func runOf(fields string) []byte {
	return stuff.Stuff(binary.LittleEndian.AppendUint32([]byte(fields), crc32.ChecksumIEEE([]byte(fields))))
}

// encoded is a frame's bytes.
func encoded(f api.Frame) []byte {
	b, e := frame.Encode(f)
	if e != api.OK {
		panic("a frame that may not be: " + frameText(f))
	}
	return b
}

// fullFrame is a data frame whose run has just n bytes, from 1000 on.
func fullFrame(n int) api.Frame {
	for size := n - 40; size < n; size++ {
		if f := dataFrame(0, 0, 0, 1, string(row(1, size))); len(encoded(f)) == n+2 {
			return f
		}
	}
	panic("no such frame")
}

// state is all that a file tells but how much was read.
func state(d *dev.Dev) string {
	return string(showNumbers(d.All(), int64(d.Len()), int64(d.Quota()), int64(d.Synced()), int64(d.Written()))) + map[bool]string{true: "up"}[d.Up()]
}

// asAt holds At against the words: what it answers, what it reads, and that nothing else changes.
func asAt(t *testing.T, d *dev.Dev, at int) api.Errno {
	t.Helper()
	b, before, counted := d.All(), state(d), d.Counted()
	want, wantBehind, wantE := wordAt(b, at)
	read := 0
	if at >= 0 && at < len(b) {
		read = min(2202, len(b)-at)
	}
	if !d.Up() {
		want, wantBehind, wantE, read = api.Frame{}, 0, api.ErrDown, 0
	}
	got, behind, e := scan.At(d, at)
	if e != wantE || behind != wantBehind || frameText(got) != frameText(want) {
		t.Fatalf("At(%d) of %d bytes: %s, %d, %d, want %s, %d, %d", at, len(b), brief(frameText(got)), behind, e, brief(frameText(want)), wantBehind, wantE)
	}
	if d.Counted()-counted != read {
		t.Fatalf("At(%d) of %d bytes: %d bytes read, want %d", at, len(b), d.Counted()-counted, read)
	}
	if state(d) != before {
		t.Fatalf("At(%d) of %d bytes changed the file", at, len(b))
	}
	return e
}

// mustAt is asAt, with the error told by hand.
func mustAt(t *testing.T, b []byte, at int, want api.Errno) {
	t.Helper()
	if e := asAt(t, device(b), at); e != want {
		t.Fatalf("At(%d) of %d bytes: %d, want %d by hand", at, len(b), e, want)
	}
}

// TestAtPlaces: P14.1: files of no bytes, of one, of frames; places of -1, 0, the length less 1, the length, one above, and far away.
func TestAtPlaces(t *testing.T) {
	one := encoded(schemaFrame(0, ints))
	for _, at := range []int{-1, 1, 2, math.MinInt, math.MaxInt} {
		mustAt(t, nil, at, api.ErrRange)
	}
	mustAt(t, nil, 0, api.ErrEnd)
	for _, b := range [][]byte{{0}, {5}, {0, 0}, one, join(one, one), row(0, 3000), row(5, 5000)} {
		n := len(b)
		for _, at := range []int{-1, -2, n + 1, n + 2, n + 3000, math.MinInt, math.MaxInt} {
			mustAt(t, b, at, api.ErrRange)
		}
		mustAt(t, b, n, api.ErrEnd)
		last := api.ErrTorn
		if b[n-1] != 0 {
			last = api.ErrFence
		}
		mustAt(t, b, n-1, last)
	}
	mustAt(t, join(one, one), 0, api.OK)
	mustAt(t, join(one, one), len(one), api.OK)
	mustAt(t, join(one, one), len(one)-1, api.ErrEmpty)
}

// TestAtDown: P14.1: of a file that is down ErrDown, whatever stands there, also of places that there are not; behind Start what stands there.
func TestAtDown(t *testing.T) {
	one := encoded(schemaFrame(0, ints))
	for _, b := range [][]byte{nil, {0}, {5}, one, join(one, row(5, 3000))} {
		d := device(b)
		takeDown(d)
		for _, at := range []int{-1, 0, 1, len(b) - 1, len(b), len(b) + 1, math.MinInt, math.MaxInt} {
			if e := asAt(t, d, at); e != api.ErrDown {
				t.Fatalf("At(%d) of a file that is down: %d", at, e)
			}
		}
		if d.Start() != api.OK || d.Len() != len(b) {
			t.Fatalf("the file is not what it was")
		}
		for at := -1; at <= len(b)+1; at++ {
			if e := asAt(t, d, at); e == api.ErrDown {
				t.Fatalf("At(%d) of a file that is up: ErrDown", at)
			}
		}
	}
}

// TestAtFence: P14.1: a first byte that is no zero, each of them, whatever follows: nothing, zeros, a frame, more than a frame may have.
func TestAtFence(t *testing.T) {
	one := encoded(schemaFrame(0, ints))
	for _, behind := range [][]byte{nil, {0}, {0, 0}, one, one[1:], row(7, maxFrame), row(7, maxFrame+1), row(7, maxFrame+2), row(7, 9000)} {
		for c := 1; c <= 255; c++ {
			mustAt(t, join([]byte{byte(c)}, behind), 0, api.ErrFence)
		}
		mustAt(t, join([]byte{0, 9, 0, 5}, behind), 3, api.ErrFence)
	}
	for at := 1; at < len(one)-1; at++ {
		mustAt(t, one, at, api.ErrFence)
	}
}

// TestAtNoSecondZero: P14.1: none in fewer than MaxFrame + 2 bytes: ErrTorn; in just as many, and in more, also where one stands behind these: ErrLong.
func TestAtNoSecondZero(t *testing.T) {
	for n := 1; n <= maxFrame+20; n++ {
		want := api.ErrTorn
		if n >= 2202 {
			want = api.ErrLong
		}
		b := join(row(0, 1), row(7, n-1))
		mustAt(t, b, 0, want)
		mustAt(t, join([]byte{0, 5, 0}, b), 3, want)
		mustAt(t, join([]byte{0}, b), 1, want)
		if n >= 2202 {
			mustAt(t, join(b, row(0, 1)), 0, api.ErrLong)
			mustAt(t, join(b, row(0, 1), row(7, 50)), 0, api.ErrLong)
		}
	}
	mustAt(t, join(row(0, 1), row(7, 90000)), 0, api.ErrLong)
}

// TestAtRuns: P14.1: a second zero just behind the first; runs of one byte, of MaxFrame and of one more, with nothing behind them and with more.
func TestAtRuns(t *testing.T) {
	for _, behind := range [][]byte{nil, {0}, {5}, row(0, 50), row(5, 5000)} {
		mustAt(t, join([]byte{0, 0}, behind), 0, api.ErrEmpty)
		mustAt(t, join([]byte{5, 0, 0}, behind), 1, api.ErrEmpty)
		mustAt(t, join([]byte{0, 1, 0}, behind), 0, api.ErrShort)
		mustAt(t, join([]byte{0, 5, 0}, behind), 0, api.ErrShort)
		for n := maxFrame - 5; n <= maxFrame+5; n++ {
			whole := join(encoded(fullFrame(1000)), fenced(row(1, n)), behind)
			want := api.ErrSum
			if n > 2200 {
				want = api.ErrLong
			}
			mustAt(t, whole, 1002, want)
			mustAt(t, whole, 0, api.OK)
			if n > 2200 {
				continue
			}
			f := fullFrame(n)
			b := join(row(0, 7), encoded(f), behind)
			mustAt(t, b, 7, api.OK)
			if got, next, e := scan.At(device(b), 7); e != api.OK || next != 7+n+2 || frameText(got) != frameText(f) {
				t.Fatalf("a run of %d bytes: %s, %d, %d", n, brief(frameText(got)), next, e)
			}
		}
	}
}

// decodeErrors are runs that are no frames, and why.
func decodeErrors() map[string]api.Errno {
	return map[string]api.Errno{
		"\x05": api.ErrShort, "\x02\x01": api.ErrShort, "\xff" + string(row(7, 254)) + "\x01": api.ErrForm, // stuff.Unstuff's
		"\x01": api.ErrShort, "\x05\x01\x02\x03\x04": api.ErrShort, "\x06\x01\x02\x03\x04\x05": api.ErrSum, string(row(1, 2200)): api.ErrSum,
		string(runOf("\x04")): api.ErrKind, string(runOf("\x00")): api.ErrKind, string(runOf("\xff\x00")): api.ErrKind,
		string(runOf("\x01\x80\x00")): api.ErrForm, string(runOf("\x02\x80\x00")): api.ErrForm, string(runOf("\x02\x00\x00\x00\x00")): api.ErrForm, string(runOf("\x03\x00\x00\x00\x41")): api.ErrForm, string(runOf("\x03\x00\x00\x00\x00\x00")): api.ErrForm,
		string(runOf("\x01\x00")): api.ErrShort, string(runOf("\x01\x00\x00")): api.ErrEmpty, string(runOf("\x01\x00\x11")): api.ErrMany, string(runOf("\x01\x00\x01\x00")): api.ErrName, string(runOf("\x01\x00\x02\x01a\x02\x00\x01a")): api.ErrTwice,
		string(runOf("\x01\x00\x01\x01a\x08")): api.ErrKind, string(runOf("\x01\x00\x01\x01a\x07\x07\x07\x07")): api.ErrDeep, string(runOf("\x01\x00\x01\x01a\x04\x01\x01\xff")): api.ErrUtf, string(runOf("\x01\x00" + string(row(1, 1025)))): api.ErrLong,
	}
}

// TestAtDecode: P14.1: each error of frame.Decode that a run may have; a fence more behind it changes nothing.
func TestAtDecode(t *testing.T) {
	for run, want := range decodeErrors() {
		for _, behind := range [][]byte{nil, {0}, {5, 0}, encoded(schemaFrame(0, ints))} {
			mustAt(t, join(fenced([]byte(run)), behind), 0, want)
			mustAt(t, join(row(9, 30), fenced([]byte(run)), behind), 30, want)
		}
	}
}

// someFrames are frames of each kind at their edges.
func someFrames() []api.Frame {
	full := slices.Repeat([]api.Entry{entry(maxSeq-1, maxSeq-1, maxSeq-1)}, 64)
	return []api.Frame{
		schemaFrame(0, ints), schemaFrame(maxNumber-1, floats), schemaFrame(3, nested), schemaFrame(300, longSchema(1024)), schemaFrame(1, wide(16)),
		dataFrame(0, 0, 0, 1, ""), dataFrame(1, 300, 5, 2, "\x00\x02\x01"), dataFrame(maxNumber-1, maxSeq-1, maxSeq-1, 64, "\x00"), dataFrame(0, 1, 2, 3, string(mixedBytes(1, 1500, 3))), fullFrame(maxFrame),
		indexFrame(0, 0, 0), indexFrame(900, 2, 7, entry(17, 0, 0)), indexFrame(maxSeq-1, maxSeq-1, maxSeq-1, full...),
	}
}

// TestAtFrames: P14.1: frames of each kind are told, at each place where one stands, with the place behind the second zero; whether they follow one another is not asked.
func TestAtFrames(t *testing.T) {
	l := &laid{}
	for _, f := range slices.Concat(someFrames(), someFrames()) {
		l.lay(f)
	}
	d := device(l.b)
	for k, one := range l.all {
		asAt(t, d, int(one.at))
		f, behind, e := scan.At(d, int(one.at))
		if e != api.OK || behind != l.behind(k) || frameText(f) != frameText(one.f) {
			t.Fatalf("frame %d: %s, %d, %d", k, brief(frameText(f)), behind, e)
		}
		if e := asAt(t, d, int(one.at)+1); e != api.ErrFence {
			t.Fatalf("behind the first fence: %d", e)
		}
	}
}

// TestAtMixed: P14.1 and P14.6: each place of mixed bytes, of frames and of damaged frames.
func TestAtMixed(t *testing.T) {
	var files [][]byte
	for k := range uint64(24) {
		files = append(files, mixedBytes(k, 50+int(k)*20, []uint64{1, 2, 5, 20, 200, 0}[k%6]))
	}
	files = append(files, mixedBytes(100, 5000, 2500), mixedBytes(101, 4000, 900))
	for k, f := range someFrames() {
		b := encoded(f)
		files = append(files, join(mixedBytes(uint64(k), 20, 4), b, mixedBytes(uint64(k)+50, 20, 4)))
		for i := range uint64(6) {
			broken := join(b, b)
			m := mixed(uint64(k)<<8 + i)
			broken[m%uint64(len(broken))] = byte(m >> 32 & (m >> 40))
			files = append(files, broken)
		}
	}
	for _, b := range files {
		d := device(b)
		for at := -1; at <= len(b)+1; at++ {
			if len(b) < 700 || at%7 == 0 || at < 3 || at > len(b)-3 {
				asAt(t, d, at)
			}
		}
	}
}

// TestAtCounts: P14.6: what stands there, whatever it is, costs one Read of at most MaxFrame + 2 bytes, by what dev counts, told by hand.
func TestAtCounts(t *testing.T) {
	for _, x := range []struct {
		b        []byte
		at, read int
	}{
		{nil, 0, 0}, {[]byte{0}, 0, 1}, {[]byte{5}, 0, 1}, {[]byte{5}, 1, 0}, {[]byte{5}, 2, 0}, {[]byte{5}, -1, 0},
		{row(0, 2201), 0, 2201}, {row(0, 2202), 0, 2202}, {row(0, 2203), 0, 2202}, {row(0, 2203), 1, 2202}, {row(0, 2203), 2, 2201}, {row(5, 9000), 0, 2202}, {row(5, 9000), 8999, 1},
		{join(row(0, 1), row(5, 90000)), 0, 2202}, {join(encoded(fullFrame(maxFrame)), row(0, 50)), 0, 2202}, {join(encoded(schemaFrame(0, ints)), row(5, 4000)), 0, 2202}, {encoded(schemaFrame(0, ints)), 0, 14},
	} {
		d := device(x.b)
		for k := 1; k <= 3; k++ {
			scan.At(d, x.at)
			if d.Counted() != k*x.read {
				t.Fatalf("At(%d) of %d bytes, %d times: %d bytes read, want %d each", x.at, len(x.b), k, d.Counted(), x.read)
			}
		}
	}
}
