package split_test

import (
	"bytes"
	"slices"
	"strconv"
	"strings"
	"testing"

	"gabion/api"
	"gabion/split"
)

// maxFrame is the document's limit, told by hand.
const maxFrame = 2200

// mixed is the n-th of a row of well mixed words, the same ones in every run.
func mixed(n uint64) uint64 {
	z := (n + 1) * 0x9e3779b97f4a7c15
	z = (z ^ z>>30) * 0xbf58476d1ce4e5b9
	z = (z ^ z>>27) * 0x94d049bb133111eb
	return z ^ z>>31
}

// mixedBytes are n mixed bytes, about one of `every` of them zero; none, if that is 0.
func mixedBytes(seed uint64, n int, every uint64) []byte {
	b := make([]byte, n)
	for i := range b {
		w := mixed(seed<<24 + uint64(i))
		b[i] = byte(w%255) + 1
		if every > 0 && w>>32%every == 0 {
			b[i] = 0
		}
	}
	return b
}

func row(c byte, n int) []byte { return bytes.Repeat([]byte{c}, n) }

func join(l ...[]byte) []byte { return bytes.Join(l, nil) }

// stream is bytes, and the runs in them by DOC.md's words, of whatever length: between each two zero bytes that have only others between them, one at least.
type stream struct {
	all  []byte
	runs []api.Run
}

func streamOf(l ...[]byte) stream {
	w := stream{all: join(l...)}
	var fences []int
	for i, c := range w.all {
		if c == 0 {
			fences = append(fences, i)
		}
	}
	for k := 1; k < len(fences); k++ {
		opening, closing := fences[k-1], fences[k]
		if closing-opening > 1 {
			w.runs = append(w.runs, api.Run{At: opening, Bytes: w.all[opening+1 : closing]})
		}
	}
	return w
}

// told is what Feed of the bytes from one place up to another must tell: P13.1.
func (w stream) told(from, to int) []api.Run {
	var l []api.Run
	for _, run := range w.runs {
		closing := run.At + 1 + len(run.Bytes)
		if from <= closing && closing < to && len(run.Bytes) <= maxFrame {
			l = append(l, run)
		}
	}
	return l
}

// held is what Held must tell behind the bytes up to a place: P13.2.
func (w stream) held(to int) int {
	last := bytes.LastIndexByte(w.all[:to], 0)
	behind := to - last - 1
	if last < 0 || behind > maxFrame {
		return 0
	}
	return behind
}

// same tells whether two lists of runs are the same.
func same(l, m []api.Run) bool {
	return slices.EqualFunc(l, m, func(a, b api.Run) bool { return a.At == b.At && bytes.Equal(a.Bytes, b.Bytes) })
}

// brief is runs for a reader: of each its place, its length and its beginning.
func brief(l []api.Run) string {
	var s []string
	for _, run := range l {
		s = append(s, "at "+strconv.Itoa(run.At)+" "+strconv.Itoa(len(run.Bytes))+" bytes "+strconv.Quote(string(run.Bytes[:min(len(run.Bytes), 12)])))
	}
	if len(s) > 12 {
		s = append(s[:12], ".. "+strconv.Itoa(len(s)-12)+" more")
	}
	return strconv.Itoa(len(l)) + " runs: " + strings.Join(s, ", ")
}

func sameRuns(t *testing.T, what string, got, want []api.Run) {
	t.Helper()
	if !same(got, want) {
		t.Fatalf("%s: %s, want %s", what, brief(got), brief(want))
	}
}

// asRuns holds Runs against the words.
func asRuns(t *testing.T, b []byte) {
	t.Helper()
	w := streamOf(b)
	sameRuns(t, "Runs of "+shown(b), split.Runs(b), w.told(0, len(b)))
}

// shown is bytes' beginning and length, as whole lists would hide what is wrong with them.
func shown(b []byte) string {
	return strconv.Itoa(len(b)) + " bytes " + strconv.Quote(string(b[:min(len(b), 24)]))
}

// fed is a Splitter, and the stream that came to it.
type fed struct {
	s   *split.Splitter
	all []byte
}

func fresh() *fed { return &fed{s: split.New()} }

// clone is another one of the same, with a stream of its own.
func (f *fed) clone() *fed { return &fed{f.s.Clone(), bytes.Clone(f.all)} }

// stands asks Held and At, twice, as they change nothing.
func (f *fed) stands(t *testing.T) {
	t.Helper()
	w := stream{all: f.all}
	for range 2 {
		if held, want := f.s.Held(), w.held(len(f.all)); held != want || f.s.At() != len(f.all) {
			t.Fatalf("behind %s: Held %d, At %d, want %d, %d", shown(f.all), held, f.s.At(), want, len(f.all))
		}
	}
}

// goOn feeds bytes, and asks all that can be asked behind them.
func (f *fed) goOn(t *testing.T, b []byte) []api.Run {
	t.Helper()
	from := len(f.all)
	f.all = append(f.all, b...)
	got := f.s.Feed(b)
	sameRuns(t, "Feed of "+shown(b)+" behind "+shown(f.all[:from]), got, streamOf(f.all).told(from, len(f.all)))
	f.stands(t)
	return got
}

// pieces feeds a stream cut at places that go up, and asks behind each piece; two cuts at one place are a piece of no bytes. All runs are those of the stream as one piece, as asRuns asks them of Runs.
func pieces(t *testing.T, w stream, cuts ...int) {
	t.Helper()
	s := split.New()
	from := 0
	var all []api.Run
	for _, to := range append(cuts, len(w.all)) {
		got := s.Feed(w.all[from:to])
		if !same(got, w.told(from, to)) || s.Held() != w.held(to) || s.At() != to {
			t.Fatalf("%s, cut at %.80v, from %d to %d: %s, Held %d, At %d, want %s, %d, %d", shown(w.all), cuts, from, to, brief(got), s.Held(), s.At(), brief(w.told(from, to)), w.held(to), to)
		}
		all = append(all, got...)
		from = to
	}
	sameRuns(t, "all runs of "+shown(w.all)+" in pieces", all, w.told(0, len(w.all)))
}

// words are all lists of 0 to most bytes out of those given.
func words(out []byte, most int) [][]byte {
	l := [][]byte{nil}
	for from, size := 0, 1; size <= most; size++ {
		end := len(l)
		for _, w := range l[from:end] {
			for _, c := range out {
				l = append(l, append(bytes.Clone(w), c))
			}
		}
		from = end
	}
	return l
}

// longStreams are streams about the limit: what is ahead of the first fence, the runs, and what is behind the last fence, of fewer bytes, as many and more.
func longStreams() []stream {
	z := row(0, 1)
	var l []stream
	for _, n := range []int{maxFrame - 1, maxFrame, maxFrame + 1, maxFrame + 2} {
		long := mixedBytes(uint64(n), n, 0)
		l = append(l,
			streamOf(long),
			streamOf(long, z),
			streamOf(z, long),
			streamOf(z, long, z),
			streamOf(long, z, row(5, 3), z),
			streamOf(z, row(5, 2), z, long, z, row(6, 1), z, z, row(7, 2), z, row(8, 4)),
			streamOf(row(4, 3), z, z, long, z, z, row(6, 1), z),
			streamOf(long, z, long, z, long),
		)
	}
	for _, n := range []int{2 * maxFrame, 2*maxFrame + 1, 2*maxFrame + 2, 2*maxFrame + 3, 4096} {
		l = append(l, streamOf(z, row(9, n), z, row(1, 2), z), streamOf(row(9, n), z, row(2, 1), z))
	}
	full, more := row(3, maxFrame), row(4, maxFrame+1)
	return append(l, streamOf(z, full, z, full, z), streamOf(z, more, z, more, z, full, z), streamOf(z, full, z, more, z, full, z, row(1, 1), z, more), streamOf(more, z, full, z, more))
}

// mixedStreams are streams of mixed bytes with many zero bytes, few, and none, some of them with runs about the limit.
func mixedStreams(n int) []stream {
	var l []stream
	for k := range uint64(n) {
		every := []uint64{1, 2, 3, 10, 100, 1000, 2200, 0}[k%8]
		size := int(mixed(k) % 300)
		if every >= 1000 {
			size = int(mixed(k) % 9000)
		}
		l = append(l, streamOf(mixedBytes(k, size, every)))
	}
	return l
}
