package index_test

import (
	"bytes"
	"slices"
	"testing"

	"gabion/api"
)

// mustLast holds Last of bytes against the words, and whether it tells an index against what is told by hand.
func mustLast(t *testing.T, b []byte, want bool) api.Index {
	t.Helper()
	x, is := lookAt(device(b)).askLast(t)
	if is != want {
		t.Fatalf("Last of %d bytes: %v, want %v by hand", len(b), is, want)
	}
	return x
}

// TestLast: P18.2: of whole files their last frame, if that is an index just behind a data frame, or at the beginning.
func TestLast(t *testing.T) {
	fresh := 0
	for _, l := range wholeFiles() {
		n := len(l.all)
		is := n > 0 && l.all[n-1].f.Kind == 3 && (n == 1 || l.all[n-2].f.Kind == 2)
		x := mustLast(t, l.b, is)
		if is {
			fresh++
			if indexText(x) != indexText(l.all[n-1].f.Index) {
				t.Fatalf("%s", indexText(x))
			}
		}
	}
	if fresh < 8 {
		t.Fatalf("only %d files have a fresh index", fresh)
	}
}

// TestLastDown: P18.2: of a file that is down ErrDown, also with a fresh index; nothing is read.
func TestLastDown(t *testing.T) {
	for _, l := range []*laid{{}, exampleFile(), longFile(9), plainFile(3)} {
		d := device(l.b)
		takeDown(d)
		if _, is := lookAt(d).askLast(t); is || d.Counted() != 0 {
			t.Fatalf("of a file that is down: %v, %d bytes read", is, d.Counted())
		}
		d.Start()
		lookAt(d).askLast(t)
	}
}

// TestLastNothing: P18.2: files of no bytes, of one, of zeros, of no zero, of two fences with nothing or noise between.
func TestLastNothing(t *testing.T) {
	for _, b := range [][]byte{nil, {0}, {5}, {0, 0}, {5, 0}, {0, 5}, {0, 5, 0}, row(0, 3), row(0, 9000), row(5, 9000), join(row(5, 9000), row(0, 1)), join(row(0, 1), row(5, 9000)), fenced(string(row(1, maxFrame))), fenced(string(row(1, maxFrame+1))), fenced(runOf("\x03")), fenced(runOf("\x04\x00\x00\x00\x00"))} {
		mustLast(t, b, false)
	}
	mustLast(t, encoded(indexFrame(0, 0, 0)), true)
}

// TestLastByte: P18.2: a last byte that is not zero, each of them, behind a fresh index or instead of its fence; and zeros behind it.
func TestLastByte(t *testing.T) {
	for _, l := range []*laid{exampleFile(), longFile(9)} {
		mustLast(t, l.b, true)
		for c := 1; c <= 255; c++ {
			mustLast(t, join(l.b, []byte{byte(c)}), false)
			mustLast(t, join(l.b[:len(l.b)-1], []byte{byte(c)}), false)
			mustLast(t, join(l.b, []byte{byte(c), 0}), false)
		}
		for n := range 3 {
			mustLast(t, join(l.b, row(0, n)), n == 0)
			mustLast(t, l.b[:len(l.b)-n], n == 0)
		}
	}
}

// TestLastKinds: P18.2: a last frame that is a schema's, or of data, or an index; whatever stood ahead.
func TestLastKinds(t *testing.T) {
	l := exampleFile()
	b := l.b
	mustLast(t, join(b, encoded(schemaFrame(0, ints))), false)
	mustLast(t, join(b, encoded(schemaFrame(1, texts))), false)
	mustLast(t, join(b, encoded(l.ownData(1, "\x00\x02"))), false)
	mustLast(t, join(b, encoded(l.ownIndex(int64(len(b))))), false)
	mustLast(t, join(b, fenced("\x05\x01\x02\x03\x04")), false)
	l.data(numbers(4))
	mustLast(t, l.b, false)
	l.index()
	if x := mustLast(t, l.b, true); x.Frames != 3 || x.Rows != 4 {
		t.Fatalf("%s", indexText(x))
	}
}

// TestLastAt: P18.2: an index whose At is another place.
func TestLastAt(t *testing.T) {
	l := plainFile(2, 1)
	at := int64(len(l.b))
	for _, wrong := range []int64{0, 1, at - 2, at - 1, at + 1, at + 2, 2 * at, 1<<31 + at, 1<<40 - 1} {
		mustLast(t, join(l.b, encoded(l.ownIndex(wrong))), false)
	}
	if x := mustLast(t, join(l.b, encoded(l.ownIndex(at))), true); x.At != at {
		t.Fatalf("%s", indexText(x))
	}
	for _, wrong := range []int64{1, 2, 1<<40 - 1} {
		mustLast(t, encoded(indexFrame(wrong, 0, 0)), false)
	}
	mustLast(t, join(row(7, 1), encoded(l.ownIndex(at))), false)
}

// TestLastAtBeginning: P18.2: at the place 0 an index of no frames and no rows alone is fresh, whatever its entries are; elsewhere such a one is not, whatever stands ahead.
func TestLastAtBeginning(t *testing.T) {
	mustLast(t, encoded(indexFrame(0, 0, 0)), true)
	if x := mustLast(t, encoded(indexFrame(0, 0, 0, entry(1, 2, 3), entry(0, 0, 0))), true); len(x.Entries) != 2 || x.Entries[0] != entry(1, 2, 3) {
		t.Fatalf("%s", indexText(x))
	}
	for _, x := range [][2]int64{{0, 1}, {1, 0}, {1, 1}, {0, 1<<40 - 1}, {1<<40 - 1, 0}} {
		mustLast(t, encoded(indexFrame(0, x[0], x[1])), false)
		mustLast(t, encoded(indexFrame(0, x[0], x[1], entry(0, 0, 0))), false)
	}
	for _, ahead := range [][]byte{encoded(schemaFrame(0, ints)), encoded(indexFrame(0, 0, 0)), encoded(dataFrame(0, 0, 0, 1, "\x00\x02")), row(0, 1), row(0, 2), row(7, 1), row(7, 3000), fenced("\x05")} {
		mustLast(t, join(ahead, encoded(indexFrame(int64(len(ahead)), 0, 0))), false)
	}
}

// TestLastAhead: P18.2: what stands ahead of an index: the byte is not zero, or no run, or one that is no data frame.
func TestLastAhead(t *testing.T) {
	data := encoded(dataFrame(0, 0, 0, 1, "\x00\x02"))
	ask := func(want bool, ahead ...[]byte) {
		t.Helper()
		b := join(ahead...)
		mustLast(t, join(b, encoded(indexFrame(int64(len(b)), 1, 1, entry(0, 0, 0)))), want)
	}
	ask(true, data)
	ask(true, row(7, 1), data)
	ask(true, row(7, 5000), data)
	ask(true, row(0, 5000), data)
	ask(true, data[1:len(data)-1], data)
	for c := 1; c <= 255; c++ {
		ask(false, data, []byte{byte(c)})
		ask(false, data[:len(data)-1], []byte{byte(c)})
	}
	ask(false, data, row(0, 1))
	ask(false, data, row(0, 2))
	ask(false, row(0, 1))
	ask(false, row(0, 2))
	ask(false, data[1:])
	ask(false, row(5, 3000), row(0, 1))
	ask(false, data, encoded(schemaFrame(0, ints)))
	ask(false, data, encoded(indexFrame(int64(len(data)), 1, 1)))
	ask(false, data, fenced("\x05\x01\x02\x03\x04"))
	ask(false, data, fenced(runOf("\x04")))
	ask(false, data, fenced(string(row(1, maxFrame))))
	// One data frame of no rows, as what is none would come to.
	for _, ahead := range [][]byte{row(0, 1), row(7, 1), fenced("\x05"), encoded(schemaFrame(0, ints)), encoded(indexFrame(0, 0, 0)), data} {
		mustLast(t, join(ahead, encoded(indexFrame(int64(len(ahead)), 1, 0))), false)
	}
	// One fence for both: then the byte ahead of the index's place is not zero.
	b := join(data[:len(data)-1], encoded(indexFrame(int64(len(data)-1), 1, 1, entry(0, 0, 0))))
	mustLast(t, b, false)
}

// TestLastComesTo: P18.2: a data frame ahead of another Seq, or whose First and Rows come to another number; its schema's number and its block are not looked at.
func TestLastComesTo(t *testing.T) {
	ask := func(want bool, f api.Frame, frames, rows int64) {
		t.Helper()
		b := encoded(f)
		mustLast(t, join(b, encoded(indexFrame(int64(len(b)), frames, rows))), want)
	}
	for _, x := range []struct {
		seq, first int64
		rows       int
	}{{0, 0, 1}, {0, 0, 64}, {1, 5, 7}, {9, 0, 3}, {0, 100, 1}, {255, 3000, 64}, {256, 3000, 64}, {1<<40 - 2, 1<<40 - 65, 64}, {1<<40 - 2, 1<<40 - 2, 1}} {
		for _, number := range []int64{0, 1, 1<<31 - 1} {
			for _, block := range []string{"", "\x00\x02", "\xff"} {
				ask(true, dataFrame(number, x.seq, x.first, x.rows, block), x.seq+1, x.first+int64(x.rows))
			}
		}
		for _, wrong := range []int64{-2, -1, 1, 2, 63, -x.seq - 1} {
			if n := x.seq + 1 + wrong; n >= 0 && n < 1<<40 {
				ask(false, dataFrame(0, x.seq, x.first, x.rows, ""), n, x.first+int64(x.rows))
			}
		}
		for _, wrong := range []int64{-1, 1, 2, 64, int64(-x.rows), -x.first} {
			if n := x.first + int64(x.rows) + wrong; n >= 0 && n < 1<<40 && wrong != 0 {
				ask(false, dataFrame(0, x.seq, x.first, x.rows, ""), x.seq+1, n)
			}
		}
	}
	// First and Rows may come to it, whichever they are.
	for rows := 1; rows <= 64; rows++ {
		ask(true, dataFrame(0, 3, 100-int64(rows), rows, ""), 4, 100)
	}
	// Beyond what an index can say.
	ask(false, dataFrame(0, 1<<40-1, 0, 1, ""), 0, 1)
	ask(false, dataFrame(0, 0, 1<<40-1, 64, ""), 1, 63)
}

// TestLastFar: P18.2: frames as long as may be, and zeros further away: a run of one byte more is not reached, nor what stands behind it.
func TestLastFar(t *testing.T) {
	s, f := fullFrame(maxFrame)
	l := &laid{}
	l.schema(0, s)
	l.lay(f)
	l.index()
	mustLast(t, l.b, true)
	for n := 2190; n <= 2300; n++ {
		ahead := fenced(string(mixedBytes(uint64(n), n, 0)))
		mustLast(t, join(ahead, encoded(indexFrame(int64(len(ahead)), 1, 1))), false)
		mustLast(t, ahead, false)
		mustLast(t, join(encoded(indexFrame(0, 0, 0)), row(5, n), row(0, 1)), false)
	}
	// An index of as many entries as may be, and of the longest numbers.
	most := slices.Repeat([]api.Entry{entry(1<<40-1, 1<<40-1, 1<<40-1)}, 64)
	b := encoded(dataFrame(0, 7, 0, 9, ""))
	x := mustLast(t, join(b, encoded(indexFrame(int64(len(b)), 8, 9, most...))), true)
	if !slices.Equal(x.Entries, most) {
		t.Fatalf("%s", brief(indexText(x)))
	}
}

// TestLastReads: P18.2: at most two frames are read, also of files that are long, without a zero, or of zeros alone.
func TestLastReads(t *testing.T) {
	_, f := fullFrame(maxFrame)
	full := bytes.Repeat(encoded(f), 20)
	for _, b := range [][]byte{row(0, 50000), row(5, 50000), join(row(5, 50000), row(0, 1)), full, join(full, encoded(indexFrame(int64(len(full)), 1, 2))), join(full, encoded(indexFrame(int64(len(full)), 1, 3))), longFile(280).b} {
		d := device(b)
		l := &look{d: d, b: b}
		l.last, l.fresh = wordFresh(b)
		l.askLast(t)
		if d.Counted() > mostLast {
			t.Fatalf("%d bytes read", d.Counted())
		}
	}
}

// TestLastDamaged: P18.2, P18.5: each byte of an index, and of the data frame ahead of it, overwritten: Last tells it no more; bytes ahead of these are not looked at.
func TestLastDamaged(t *testing.T) {
	for _, l := range []*laid{exampleFile(), longFile(6)} {
		n := len(l.all)
		for at := range len(l.b) {
			for _, v := range []byte{0, 1, 2, 99, 255, l.b[at] ^ 1, l.b[at] ^ 128} {
				if v == l.b[at] {
					continue
				}
				b := bytes.Clone(l.b)
				b[at] = v
				mustLast(t, b, at < l.place(n-2))
			}
		}
	}
}
