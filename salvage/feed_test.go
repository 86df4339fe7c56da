package salvage_test

import (
	"bytes"
	"encoding/binary"
	"math"
	"slices"
	"strings"
	"testing"

	"gabion/api"
	"gabion/batch"
	"gabion/frame"
	"gabion/salvage"
)

// common are schemas of unlike numbers.
var common = []api.Numbered{named(0, ints), named(1, texts), named(2, two), named(5, floats), named(9, nested), named(maxNumber-1, ints)}

// TestFeedFields: P17.2: of each batch where its opening fence stands, Number, Seq, First and the rows, at the edges of each, told by hand.
func TestFeedFields(t *testing.T) {
	const most = 1<<40 - 1
	var b []byte
	var want []api.Batch
	add := func(number, seq, first int64, s api.Schema, l []api.Row) {
		want = append(want, saved(len(b), number, seq, first, l))
		b = append(b, encoded(dataOf(number, seq, first, s, l))...)
	}
	add(0, 0, 0, ints, numbers(1))
	add(0, most, most, ints, numbers(math.MinInt64, math.MaxInt64, 0))
	add(maxNumber-1, 1, 2, ints, numbers(slices.Repeat([]int64{3, -4}, 32)...))
	add(1, 2, 1, texts, rows(text(""), text("\u00e9"), text("\x00")))
	add(2, 3, most, two, []api.Row{values(number(9), text("x")), values(number(8), text("y"))})
	add(5, most, 4, floats, []api.Row{values(bits(1<<63), list(opt(), opt(bits(theNaN)))), values(bits(theNaN), list())})
	add(9, 127, 128, nested, []api.Row{values(list(opt(list(rawBytes("\xff\x00"))), opt()), opt(text("z")), boolean(1))})
	add(0, 0, 0, ints, numbers(1))
	must(t, common, b, want...)
	for ahead := range 3 {
		for k := range want {
			want[k].At++
		}
		b = append([]byte{[]byte{7, 0, 8}[ahead]}, b...)
		must(t, common, b, want...)
	}
}

// TestFeedFloats: P17.2, R6: floats to the bit: noughts, infinities, the one NaN.
func TestFeedFloats(t *testing.T) {
	s := of(plain("a", ofFloat))
	written := rows(bits(0), bits(1<<63), bits(theNaN), bits(0xfff8000000000001), bits(0x7ff0000000000001), float(math.Inf(-1)), float(0.1))
	want := rows(bits(0), bits(1<<63), bits(theNaN), bits(theNaN), bits(theNaN), float(math.Inf(-1)), float(0.1))
	must(t, []api.Numbered{named(0, s)}, encoded(dataOf(0, 0, 0, s, written)), saved(0, 0, 0, 0, want))
}

// TestFeedNumbers: P17.2: data frames with and without a schema of their number, and under one that their rows are not of.
func TestFeedNumbers(t *testing.T) {
	for _, n := range []int64{0, 1, 2, 3, 4, 5, 9, 127, 128, maxNumber - 2, maxNumber - 1} {
		b := encoded(dataOf(n, 3, 4, ints, numbers(1, 1)))
		must(t, []api.Numbered{named(n, ints)}, b, saved(0, n, 3, 4, numbers(1, 1)))
		must(t, []api.Numbered{named(n, floats), named(n+1, ints)}, b)
		for _, other := range []int64{0, 1, 2, 3, 4, 5, 9, 127, 128, maxNumber - 2, maxNumber - 1} {
			if other != n {
				must(t, []api.Numbered{named(other, ints)}, b)
			}
		}
	}
	must(t, []api.Numbered{named(0, of(plain("b", ofBool)))}, encoded(dataOf(0, 0, 0, ints, numbers(0, -1))), saved(0, 0, 0, 0, rows(boolean(0), boolean(1))))
}

// wrongBlock is a block that is not so many rows of a schema, and why.
type wrongBlock struct {
	s    api.Schema
	rows int
	b    string
	want api.Errno
}

// wrongBlocks are some for each error of batch.Unpack that a frame's block may have: block.Unpack's, row.Decode's, and bytes left.
func wrongBlocks() []wrongBlock {
	x := strings.Repeat("\x02", 2049)
	return []wrongBlock{
		{ints, 1, "", api.ErrEmpty}, {ints, 1, "\x02", api.ErrForm}, {ints, 1, "\xff\x02", api.ErrForm}, {ints, 64, "\x00" + x, api.ErrLong}, {ints, 1, "\x01\x82\x20" + x, api.ErrLong}, {ints, 1, "\x01\x02", api.ErrShort}, {ints, 1, "\x01\x00", api.ErrForm}, {ints, 1, "\x01\x02\x02\x09\x02", api.ErrForm},
		{ints, 1, "\x00", api.ErrShort}, {ints, 1, "\x01", api.ErrShort}, {ints, 2, "\x00\x02", api.ErrShort}, {ints, 64, "\x00\x02", api.ErrShort}, {ints, 1, "\x00\x80", api.ErrShort}, {ints, 1, "\x00\x80\x00", api.ErrForm},
		{ints, 1, "\x00\x02\x02", api.ErrForm}, {ints, 63, "\x00" + x[:64], api.ErrForm}, {ints, 1, "\x00" + x[:2048], api.ErrForm},
		{texts, 1, "\x00\x01\xff", api.ErrUtf}, {texts, 1, "\x00\x81\x08", api.ErrLong}, {texts, 2, "\x00\x01a\x05a", api.ErrShort},
		{of(plain("a", ofBool)), 2, "\x00\x01\x02", api.ErrForm}, {of(plain("a", listOf(ofBool))), 1, "\x00\x81\x02", api.ErrMany}, {of(plain("a", ofFloat)), 1, "\x00\xff\xff\xff\xff\xff\xff\xff\xff", api.ErrForm},
		{of(plain("a", ofBytes), plain("b", ofBytes)), 1, "\x00\xd8\x04" + x[:600] + "\xd8\x04" + x[:600], api.ErrLong},
	}
}

// TestFeedBlocks: P17.2: a Block that is no rows under its schema, by each error of batch.Unpack: nothing of its frame is told, and the frames about it are.
func TestFeedBlocks(t *testing.T) {
	right := encoded(dataOf(8, 1, 2, ints, numbers(5)))
	for _, x := range wrongBlocks() {
		if _, e := batch.Unpack(x.s, []byte(x.b), x.rows); e != x.want {
			t.Fatalf("batch.Unpack of %d rows of %.20x: %d, want %d", x.rows, x.b, e, x.want)
		}
		b := encoded(dataFrame(7, 0, 0, x.rows, x.b))
		l := []api.Numbered{named(7, x.s), named(8, ints)}
		must(t, l, b)
		must(t, l, join(right, b, b, right), saved(0, 8, 1, 2, numbers(5)), saved(len(right)+2*len(b), 8, 1, 2, numbers(5)))
	}
}

// noBatches are bytes that tell nothing by the common schemas, each between fences of its own or none.
func noBatches() [][]byte {
	data := encoded(dataOf(0, 0, 0, ints, numbers(1, 2)))
	damaged := bytes.Clone(data)
	damaged[4] ^= 4
	return [][]byte{
		nil, encoded(indexFrame(0, 0, 0)), encoded(indexFrame(9, 8, 7, slices.Repeat([]api.Entry{entry(1, 2, 3)}, 64)...)), framesOf(named(0, ints)), framesOf(named(0, texts)), framesOf(named(77, ints)), framesOf(named(1, longSchema(1024))),
		damaged, encoded(dataOf(77, 0, 0, ints, numbers(1))), encoded(dataFrame(0, 0, 0, 2, "\x00\x02")), fenced("\x01"), fenced("\x05\x01\x02\x03\x04"), fenced(runOf("\x04\x00\x00\x00\x01\x00\x02")), fenced(runOf("\x00\x00\x00\x00\x01\x00\x02")), fenced(runOf("\x02\x00\x00\x00\x00\x00\x02")), fenced(runOf("\x02\x00\x00\x00\x41\x00\x02")), fenced(runOf("\x02\x80\x00\x00\x00\x01\x00\x02")), fenced(runOf("\x02\x80\x80\x80\x80\x08\x00\x00\x01\x00\x02")),
		fenced(string(row(5, maxFrame))), fenced(string(row(5, maxFrame+1))), fenced(string(row(5, 9000))), row(0, 1), row(0, 7), fenced(string(data[1:9])), fenced(string(data[3 : len(data)-1])),
	}
}

// TestFeedNothing: P17.2: index and schema frames, and runs that are no frame, tell nothing, wherever they stand among data frames; a schema frame of the stream changes nothing of what the list says.
func TestFeedNothing(t *testing.T) {
	data := encoded(dataOf(0, 3, 4, ints, numbers(1, 2)))
	for _, x := range noBatches() {
		must(t, common, x)
		for _, y := range noBatches() {
			first := saved(len(x), 0, 3, 4, numbers(1, 2))
			second := first
			second.At += len(data) + len(y)
			must(t, common, join(x, data, y, data, x), first, second)
		}
	}
}

// TestFeedFences: P17.2: one fence closes a frame and opens the next one; without its fence ahead, or behind, a frame is none.
func TestFeedFences(t *testing.T) {
	data := encoded(dataOf(0, 3, 4, ints, numbers(1, 2)))
	n := len(data)
	one := func(at int) api.Batch { return saved(at, 0, 3, 4, numbers(1, 2)) }
	must(t, common, join(data, data[1:], data[1:]), one(0), one(n-1), one(2*n-2))
	must(t, common, data[1:])
	must(t, common, data[:n-1])
	must(t, common, data[1:n-1])
	must(t, common, join(data[1:], data), one(n-1))
	must(t, common, join(data[1:], data[1:]), one(n-2))
	must(t, common, join(data[:n-1], data[1:n-1]))
	must(t, common, join(row(0, 3), data, row(0, 3), row(5, 1), data), one(3), one(n+7))
	must(t, common, join(row(0, 1), row(5, 1), data[1:]))
	must(t, common, join(data[:n-1], row(5, 1), row(0, 1)))
}

// fullFrame is a data frame of two rows of bytes, and their schema, whose run has just n bytes, from 2000 on: they are packed in tokens of one byte and, a few, of two.
func fullFrame(n int) (api.Schema, api.Frame) {
	s := of(plain("a", ofBytes))
	for size := 400; size < 600; size++ {
		written := join(rowBytes(500), rowBytes(size))
		for pairs := range 20 {
			f := dataFrame(0, 0, 0, 2, tokens(written, pairs))
			if b, e := frame.Encode(f); e == api.OK && len(b) == n+2 {
				return s, f
			}
		}
	}
	panic("no such frame")
}

// rowBytes are the bytes of a row of n bytes.
func rowBytes(n int) []byte { return append(binary.AppendUvarint(nil, uint64(n)), row(5, n)...) }

// tokens are bytes packed in tokens of one byte each, but the first ones of two.
func tokens(b []byte, pairs int) string {
	told := []byte{1}
	for len(b) > 0 {
		k := 1
		if pairs > 0 {
			k = 2
		}
		pairs--
		told = append(append(told, byte(2*k)), b[:k]...)
		b = b[k:]
	}
	return string(told)
}

// TestFeedFull: P17.2, P17.5: frames about MaxFrame bytes are told; a run of one more, with the right check, is not, and the frames behind it are.
func TestFeedFull(t *testing.T) {
	for _, n := range []int{2100, maxFrame - 1, maxFrame} {
		s, f := fullFrame(n)
		written, _ := batch.Unpack(s, f.Block, 2)
		l := []api.Numbered{named(0, s), named(1, ints)}
		b := join(encoded(f), encoded(dataOf(1, 1, 2, ints, numbers(7))))
		must(t, l, b, saved(0, 0, 0, 0, written), saved(n+2, 1, 1, 2, numbers(7)))
	}
	s := of(plain("a", ofBytes))
	for _, n := range []int{maxFrame + 1, maxFrame + 2, 3000} {
		for size := 500; ; size++ {
			run := runOf("\x02\x00\x00\x00\x02" + tokens(join(rowBytes(500), rowBytes(size)), 0))
			if len(run) < n {
				continue
			}
			b := join(fenced(run), encoded(dataOf(1, 1, 2, ints, numbers(7))))
			must(t, []api.Numbered{named(0, s), named(1, ints)}, b, saved(len(run)+2, 1, 1, 2, numbers(7)))
			break
		}
	}
}

// TestFeedPieces: P17.2, P17.5: pieces of no bytes, of one byte each, cut at each place, ahead of a fence and behind it; in two places; of mixed lengths.
func TestFeedPieces(t *testing.T) {
	data, other := encoded(dataOf(0, 3, 4, ints, numbers(1, 2))), encoded(dataOf(1, 4, 6, texts, rows(text("xyz"))))
	w := streamOf(common, row(7, 2), row(0, 2), data, other[1:], row(5, 3), framesOf(named(0, texts)), data, row(0, 2), other, row(6, 2))
	if len(w.told) != 4 {
		t.Fatalf("only %d batches", len(w.told))
	}
	for first := range len(w.all) + 1 {
		w.pieces(t, first)
		w.pieces(t, first, first)
		w.pieces(t, 0, first, first, first, len(w.all))
		for second := first; second <= len(w.all); second++ {
			w.pieces(t, first, second)
		}
	}
	for size := 1; size <= len(w.all); size++ {
		w.pieces(t, singly(w.all, size)...)
	}
	for k := range uint64(300) {
		r := &source{mixedBytes(k, 100, 0)}
		w.pieces(t, r.cuts(w.all)...)
	}
}

// TestFeedWhen: P17.2: a batch is told with the piece that holds its closing fence, no later and no earlier, told by hand.
func TestFeedWhen(t *testing.T) {
	data := encoded(dataOf(0, 3, 4, ints, numbers(1, 2)))
	n := len(data)
	s := salvage.New(common)
	want := func(at int) []api.Batch { return []api.Batch{saved(at, 0, 3, 4, numbers(1, 2))} }
	sameBatches(t, "up to its closing fence", s.Feed(join(row(9, 1), data[:n-1])), nil)
	sameBatches(t, "nothing", s.Feed(nil), nil)
	sameBatches(t, "its closing fence", s.Feed(row(0, 1)), want(1))
	sameBatches(t, "nothing more", s.Feed([]byte{}), nil)
	sameBatches(t, "the closing fence opens", s.Feed(data[1:]), want(n))
	sameBatches(t, "half of it", s.Feed(data[:n/2]), nil)
	sameBatches(t, "the other half and one more", s.Feed(join(data[n/2:], data)), append(want(2*n), want(3*n)...))
	if s.Held() != 0 {
		t.Fatalf("Held %d", s.Held())
	}
}

// TestHeld: P17.2, P17.5: at the beginning, ahead of a fence, within a run, at a run of MaxFrame bytes and of one more, behind it, told by hand.
func TestHeld(t *testing.T) {
	s := salvage.New(common)
	if s.Held() != 0 {
		t.Fatalf("Held %d at the beginning", s.Held())
	}
	for k, x := range []struct {
		c       byte
		n, held int
	}{
		{5, 1, 0}, {5, maxFrame, 0}, {5, 5000, 0}, // ahead of the first fence
		{0, 1, 0}, {5, 0, 0}, {5, 1, 1}, {5, 1, 2}, {5, 0, 2}, {0, 1, 0}, {0, 1, 0}, {5, 3, 3}, {0, 2, 0},
		{5, maxFrame - 1, maxFrame - 1}, {5, 1, maxFrame}, {5, 1, 0}, {5, 1, 0}, {5, maxFrame, 0}, {5, 70000, 0}, {0, 1, 0},
		{5, maxFrame, maxFrame}, {0, 1, 0}, {5, maxFrame + 1, 0}, {0, 1, 0}, {5, maxFrame, maxFrame}, {5, 1, 0}, {0, 1, 0}, {5, 2, 2},
	} {
		s.Feed(row(x.c, x.n))
		if s.Held() != x.held || s.Held() != x.held {
			t.Fatalf("behind piece %d: Held %d, want %d", k, s.Held(), x.held)
		}
	}
}

// TestHeldWithin: P17.2, P17.5: behind each byte of data frames, up to the longest ones, and of noise.
func TestHeldWithin(t *testing.T) {
	s, f := fullFrame(maxFrame)
	w := streamOf([]api.Numbered{named(0, s), named(1, ints)}, encoded(f), row(5, 3), encoded(dataOf(1, 1, 2, ints, numbers(7))), row(0, 2), mixedBytes(3, 3000, 700), row(0, 1), row(5, maxFrame+2), encoded(f)[1:], row(5, maxFrame+2))
	w.pieces(t, singly(w.all, 1)...)
	for at := 0; at < len(w.all); at += 13 {
		w.pieces(t, at)
	}
}

// TestSideBySide: R5: Salvagers that are fed in turn know nothing of each other.
func TestSideBySide(t *testing.T) {
	data := encoded(dataOf(0, 3, 4, ints, numbers(1, 2)))
	lists := [][]api.Numbered{nil, common, {named(0, ints)}, {named(0, texts)}, {named(0, two), named(1, ints)}, {named(0, of(plain("b", ofInt)))}}
	all := make([][]byte, len(lists))
	var l []*salvage.Salvager
	for _, x := range lists {
		l = append(l, salvage.New(x))
	}
	for k := range uint64(2000) {
		i := int(mixed(k) % uint64(len(l)))
		from := int(mixed(k) >> 8 % uint64(len(data)))
		piece := data[from : from+int(mixed(k)>>16%uint64(len(data)-from+1))]
		if k%5 < 3 {
			piece = join(data, piece)
		}
		before := len(all[i])
		all[i] = append(all[i], piece...)
		w := streamOf(lists[i], all[i])
		sameBatches(t, "in turn", l[i].Feed(piece), w.between(before, len(all[i])))
		if l[i].Held() != w.held(len(all[i])) {
			t.Fatalf("Held %d, want %d", l[i].Held(), w.held(len(all[i])))
		}
		if len(all[i]) > 2000 {
			l[i], all[i] = salvage.New(lists[i]), nil
		}
	}
}
