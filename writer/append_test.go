package writer_test

import (
	"bytes"
	"math"
	"strings"
	"testing"

	"gabion/api"
	"gabion/dev"
	"gabion/writer"
)

// TestExamples: the chapter's examples.
func TestExamples(t *testing.T) {
	p := empty(t, ints)
	p.mustStand("", 0, 0, 0)
	p.Append(numbers(1, 2), api.OK)
	p.mustStand("SD", 1, 2, 0)
	p.Append(numbers(3), api.OK)
	p.mustStand("SDD", 2, 3, 0)
	for i := range int64(6) {
		p.Append(numbers(i), api.OK)
	}
	p.mustStand("SDDDDDDDD", 8, 9, 0)
	p.Append(numbers(9), api.OK) // Since was 8
	p.mustStand("SDDDDDDDDSD", 9, 10, 0)
	p.Change(two, api.OK)
	p.mustStand("SDDDDDDDDSD", 9, 10, 1)
	p.Change(ints, api.OK)
	p.mustStand("SDDDDDDDDSD", 9, 10, 0)
	p.Append(nil, api.ErrEmpty)
	p.Append([]api.Row{values(number(1), number(2))}, api.ErrType)
	p.Close(true, api.OK)
	p.Open(ints, api.OK)
	p.Close(false, api.OK)
	p.mustStand("SDDDDDDDDSDX", 9, 10, 0)
	q := begin(t, deviceOf(p.d.Len(), p.d.All()), ints)
	q.Append(numbers(1), api.ErrNoSpace)
	q.mustStand("SDDDDDDDDSDX", 9, 10, 0)
}

// TestBytes: P19.2, P19.4: the bytes, told by hand.
func TestBytes(t *testing.T) {
	p := empty(t, ints)
	var want []byte
	must := func(fields ...string) {
		t.Helper()
		for _, one := range fields {
			want = append(want, fencedOf(one)...)
		}
		if !bytes.Equal(p.d.All(), want) {
			t.Fatalf("%x, want %x", p.d.All(), want)
		}
	}
	must()
	p.Append(numbers(1, 2), api.OK)
	must("\x01\x00\x01\x01a\x02\x00", "\x02\x00\x00\x00\x02\x00\x02\x04")
	data := string(rune(len(fencedOf("\x01\x00\x01\x01a\x02\x00")))) // the first data frame's place, below 128
	p.Append(numbers(-3), api.OK)
	must("\x02\x00\x01\x02\x01\x00\x05")
	p.Change(two, api.OK)
	must()
	p.Append([]api.Row{values(number(64), text("hi"))}, api.OK)
	must("\x01\x01\x02\x01a\x02\x00\x01b\x04\x00", "\x02\x01\x02\x03\x01\x00\x80\x01\x02hi")
	p.Change(ints, api.OK)
	p.Append(numbers(0), api.OK)
	must("\x01\x02\x01\x01a\x02\x00", "\x02\x02\x03\x04\x01\x00\x00")
	at := len(want)
	if at < 80 || at > 127 {
		t.Fatalf("%d bytes", at)
	}
	p.Sync(api.OK)
	must()
	p.Close(true, api.OK)
	must("\x03" + string(rune(at)) + "\x04\x05\x01" + data + "\x00\x00")
	p.Open(ints, api.OK)
	must()
	p.Append(numbers(7, 8), api.OK)
	must("\x02\x02\x04\x05\x02\x00\x0e\x10")
	p.mustRead()
}

// TestAppendBlocks: P19.2: blocks of each kind, the longest ones too: alone, and one behind the other; a reader tells them.
func TestAppendBlocks(t *testing.T) {
	all := empty(t, ints)
	for _, one := range blocks() {
		p := empty(t, one.s)
		p.do(one, one, one)
		p.mustStand("SDDD", 3, int64(3*len(one.l)), 0)
		p.mustRead()
		all.do(one)
	}
	all.mustRead()
	all.Close(true, api.OK)
	all.mustRead()
}

// TestAppendShut: P19.2: a writer that was closed, and one whose power failed, is not open: ErrState, also of rows that may not be.
func TestAppendShut(t *testing.T) {
	p := empty(t, ints)
	p.Append(numbers(1), api.OK)
	p.Close(true, api.OK)
	p.mustBeShut()
	p.mustStand("SDX", 1, 1, 0)
	p = empty(t, ints)
	p.fail(0, 0)
	p.Append(numbers(1), api.ErrPower)
	p.mustBeShut()
	p.start()
	p.mustBeShut()
	p.mustStand("", 0, 0, 0)
}

// TestAppendRefused: P19.2, R2: rows that are no block: batch.Pack's error; nothing has changed, and it is open; also where there is no space, or the file is down: that is not asked.
func TestAppendRefused(t *testing.T) {
	for _, one := range allRefusedRows() {
		p := empty(t, one.s)
		p.Append(one.l, one.want)
		p.mustStand("", 0, 0, 0)
		p.Append([]api.Row{someRow(one.s)}, api.OK)
		p.Append(one.l, one.want)
		p.mustStand("SD", 1, 1, 0)
		p.fail(0, 0)
		p.Append(one.l, one.want)
		p.down()
		p.Append(one.l, one.want)
		p.Append([]api.Row{someRow(one.s)}, api.ErrDown)
		p.Append(one.l, api.ErrState)
		p = begin(t, deviceOf(0, nil), one.s)
		p.Append(one.l, one.want)
		p.Append([]api.Row{someRow(one.s)}, api.ErrNoSpace)
		p.Append(one.l, one.want)
	}
}

// TestAppendDue: P19.2: a schema frame stands ahead of each eight data frames, whatever stands between, and ahead of the first one of another schema.
func TestAppendDue(t *testing.T) {
	p := empty(t, ints)
	want := ""
	for i := range int64(40) {
		if i%8 == 0 {
			want += "S"
		}
		p.Append(numbers(i), api.OK)
		want += "D"
		p.mustStand(want, i+1, i+1, 0)
	}
	// Another schema five data frames behind: the next one of that is due eight behind it.
	p = empty(t, ints)
	for range 5 {
		p.Append(numbers(1), api.OK)
	}
	p.Change(two, api.OK)
	for range 9 {
		p.Append([]api.Row{values(number(1), text("x"))}, api.OK)
	}
	p.mustStand("SDDDDDSDDDDDDDDSD", 14, 14, 1)
	// Both causes at once: one schema frame.
	p = empty(t, ints)
	for range 8 {
		p.Append(numbers(1), api.OK)
	}
	p.Change(two, api.OK)
	p.Append([]api.Row{values(number(1), text("x"))}, api.OK)
	p.mustStand("SDDDDDDDDSD", 9, 9, 1)
	p.Change(ints, api.OK)
	p.Append(numbers(1), api.OK)
	p.mustStand("SDDDDDDDDSDSD", 10, 10, 2)
}

// TestAppendDueAnew: P19.2: likewise where the file is closed and opened anew ahead of each append: indexes don't count, and between two data frames stand at most one schema frame and one index.
func TestAppendDueAnew(t *testing.T) {
	p := empty(t, ints)
	want := ""
	for i := range int64(20) {
		if i%8 == 0 {
			want += "S"
		}
		want += "DX"
		p.Append(numbers(i), api.OK)
		p.Close(true, api.OK)
		p.Open(ints, api.OK)
		p.Close(false, api.OK)
		p.Open(ints, api.OK)
		p.mustStand(want, i+1, i+1, 0)
	}
	p.mustRead()
}

// TestAppendDueForeign: P19.2: of files of which others wrote more or fewer data frames behind a schema frame: due from eight on.
func TestAppendDueForeign(t *testing.T) {
	for n := range 30 {
		for _, closed := range []bool{false, true} {
			l := plainFile(n)
			if closed || n == 0 {
				l.index()
			}
			p := begin(t, device(l.b), ints)
			want := l.kinds()
			if n >= 8 {
				want += "S"
			}
			p.Append(numbers(1), api.OK)
			p.Append(numbers(1), api.OK)
			if n == 7 {
				want += "DS"
				p.mustStand(want+"D", 9, 9, 0)
				continue
			}
			p.mustStand(want+"DD", int64(n)+2, int64(n)+2, 0)
		}
	}
}

// TestAppendSpace: P19.2, P19.3, R2: each append of a script with one byte too few: ErrNoSpace, nothing has changed, and it is open: smaller ones are taken; with just enough: all is written.
func TestAppendSpace(t *testing.T) {
	steps := script()
	for k, one := range steps {
		p := empty(t, ints)
		p.do(steps[:k]...)
		p.turn(one.s)
		b, need := p.d.All(), p.Need(one.l, api.OK)
		for _, less := range []int{1, 2, need / 2, need - 1, need} {
			q := begin(t, deviceOf(len(b)+need-less, b), one.s)
			before := state(q.d)
			for range 2 {
				q.Append(one.l, api.ErrNoSpace)
			}
			if state(q.d) != before || !q.open {
				t.Fatalf("step %d, %d bytes too few: the file was changed", k, less)
			}
			q.Change(two, api.OK)
			q.Change(one.s, api.OK)
			q.Sync(api.OK)
			q.Append(one.l, api.ErrNoSpace)
			q.Need(one.l, api.OK)
			q.close1()
			q.mustBeShut()
		}
		q := begin(t, deviceOf(len(b)+need, b), one.s)
		q.Append(one.l, api.OK)
		if q.d.Len() != q.d.Quota() {
			t.Fatalf("step %d: %d bytes of %d", k, q.d.Len(), q.d.Quota())
		}
		q.Append([]api.Row{someRow(one.s)}, api.ErrNoSpace)
		q.Close(false, api.OK)
	}
}

// TestAppendSmaller: P19.2: where a long block finds no space, a shorter one may; where a schema frame does and the data frame behind it doesn't, neither is written.
func TestAppendSmaller(t *testing.T) {
	s := encoded(schemaFrame(0, texts))
	short := encoded(dataFrame(0, 0, 0, 1, "\x00\x01x"))
	for quota := range len(s) + len(short) {
		p := begin(t, deviceOf(quota, nil), texts)
		p.Append(rows(text("x")), api.ErrNoSpace)
		if p.d.Len() != 0 || p.d.Written() != 0 {
			t.Fatalf("a quota of %d: %d bytes", quota, p.d.Len())
		}
	}
	p := begin(t, deviceOf(len(s)+len(short), nil), texts)
	p.Append(rows(text("xyzvw"), text("uts")), api.ErrNoSpace)
	p.mustStand("", 0, 0, 0)
	p.Append(rows(text("x")), api.OK)
	p.mustStand("SD", 1, 1, 0)
	p.mustRead()
}

// TestAppendBeyond: P19.2, P19.4: a file that is longer than the quota is opened; nothing is appended to it.
func TestAppendBeyond(t *testing.T) {
	l := plainFile(9)
	for _, quota := range []int{0, 1, len(l.b) - 1, len(l.b)} {
		p := begin(t, deviceOf(quota, l.b), ints)
		p.mustStand(l.kinds(), 9, 9, 0)
		p.Append(numbers(1), api.ErrNoSpace)
		p.Sync(api.OK)
		p.Close(false, api.OK)
		p.mustStand(l.kinds(), 9, 9, 0)
	}
}

// TestAppendPower: P19.2, P0.2: power fails at each byte of the one Write, whatever is kept: ErrPower, it is not open any more, and Frames, Rows, Number are those of ahead of it; opened again, the file has the rows that it had, and goes on to the same bytes.
func TestAppendPower(t *testing.T) {
	steps := []step{{ints, numbers(1, 2)}, {ints, numbers(3)}, {two, []api.Row{values(number(4), text("four"))}}, {ints, numbers(5)}, {ints, numbers(6, 7, 8)}}
	for k, one := range steps {
		p := empty(t, ints)
		p.do(steps[:k+1]...)
		whole := p.d.All()
		for after := 0; ; after++ {
			done := false
			for _, keep := range []int{0, 1, after, math.MaxInt} {
				q := empty(t, ints)
				q.do(steps[:k]...)
				q.turn(one.s)
				q.Sync(api.OK)
				was, kinds, number := q.d.Len(), q.kinds(), q.w.Number()
				q.fail(after, keep)
				if done = q.append1(one.l) == api.OK; done {
					break
				}
				q.mustStand(kinds, int64(k), q.rows(), number)
				q.mustBeShut()
				if q.d.Up() || q.d.Len() != was+min(after, keep) {
					t.Fatalf("step %d, %d bytes: up %v, %d bytes of %d", k, after, q.d.Up(), q.d.Len(), was)
				}
				q.start()
				q.mustBeShut()
				q.Open(one.s, api.OK)
				q.mustStand(kinds, int64(k), q.rows(), number)
				q.do(one)
				if !bytes.Equal(q.d.All(), whole) {
					t.Fatalf("step %d, %d bytes: it does not go on to the same bytes", k, after)
				}
				q.mustRead()
			}
			if done {
				if after != len(whole)-lenOf(steps[:k], t) {
					t.Fatalf("step %d: all is written at %d deeds", k, after)
				}
				break
			}
		}
	}
}

// lenOf is how many bytes an empty file has behind some steps.
func lenOf(steps []step, t *testing.T) int {
	t.Helper()
	p := empty(t, ints)
	p.do(steps...)
	return p.d.Len()
}

// TestAppendPowerUnsynced: P0.2: nothing was synced: whatever is kept, behind the next opening there are the first appends, whole ones.
func TestAppendPowerUnsynced(t *testing.T) {
	steps := script()[:14]
	whole := lenOf(steps, t)
	for keep := range whole + 2 {
		p := empty(t, ints)
		p.do(steps...)
		p.fail(3, keep)
		p.Append(numbers(1), api.ErrType)
		p.Append(rows(text("x"), text("y")), api.ErrPower)
		p.mustStand("SDDDDDDDDSDDDDDSD", 14, int64(len(p.kept)), 1)
		if p.d.Len() != min(keep, whole+3) {
			t.Fatalf("keep %d: %d bytes", keep, p.d.Len())
		}
		p.start()
		p.Open(ints, api.OK)
		p.mustRead()
		p.do(steps[:2]...)
		p.mustRead()
	}
}

// TestAppendDown: P19.2: of a file that is down ErrDown, also where there is no space; it is not open any more, also behind Start.
func TestAppendDown(t *testing.T) {
	for _, quota := range []int{0, plenty} {
		p := begin(t, deviceOf(quota, nil), ints)
		p.down()
		p.Need(numbers(1), api.OK)
		p.Append(numbers(1), api.ErrDown)
		p.mustBeShut()
		p.start()
		p.mustBeShut()
		p.mustStand("", 0, 0, 0)
		p.Open(ints, api.OK)
	}
	p := empty(t, ints)
	p.Append(numbers(1, 2), api.OK)
	p.Change(two, api.OK)
	p.down()
	p.Append([]api.Row{values(number(1), text(""))}, api.ErrDown)
	p.mustStand("SD", 1, 2, 1)
	p.mustBeShut()
}

// TestAppendUnseen: P19.2: power that failed where the writer did nothing is not its business: it is open.
func TestAppendUnseen(t *testing.T) {
	p := empty(t, ints)
	p.Append(numbers(1), api.OK)
	p.down()
	p.Change(two, api.OK)
	p.Change(ints, api.OK)
	p.start()
	p.Append(numbers(2), api.OK)
	p.Close(true, api.OK)
	p.mustRead()
}

// TestAppendMany: P19.2, P19.4: more data frames than one index tells, until the greatest file is full.
func TestAppendMany(t *testing.T) {
	d, _ := dev.New(api.MaxQuota)
	w, _ := writer.Open(d, blobs)
	l := rows(rawBytes(string(mixedBytes(1, 1022, 3))), rawBytes(string(mixedBytes(2, 1022, 0))))
	n := int64(0)
	for {
		need, _ := w.Need(l)
		was := d.Len()
		e := w.Append(l)
		if e == api.ErrNoSpace && was+need > api.MaxQuota && d.Len() == was {
			break
		}
		if e != api.OK || was+need > api.MaxQuota || d.Len() != was+need {
			t.Fatalf("%d: %d bytes, %d more: %d", n, was, need, e)
		}
		n++
	}
	if w.Frames() != n || w.Rows() != 2*n || n < 480 {
		t.Fatalf("Frames %d, Rows %d, want %d, %d", w.Frames(), w.Rows(), n, 2*n)
	}
	if is, e := w.Close(); !is || e != api.OK {
		t.Fatalf("Close: %v, %d", is, e)
	}
	frames, whole := readWords(d.All())
	if !whole || frames.frames() != n || !frames.closed() || len(frames.entries()) != 64 {
		t.Fatalf("the file is not whole")
	}
	for at, one := range strings.Split(strings.TrimSuffix(frames.kinds(), "X"), "S")[1:] {
		if len(one) != 8 && int64(8*at+len(one)) != n {
			t.Fatalf("%d data frames behind a schema frame", len(one))
		}
	}
}
