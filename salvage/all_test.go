package salvage_test

import (
	"bytes"
	"slices"
	"strings"
	"testing"

	"gabion/api"
	"gabion/batch"
	"gabion/dev"
	"gabion/reader"
	"gabion/salvage"
	"gabion/scan"
)

// someRows are n rows of a schema, mixed ones.
func someRows(s api.Schema, n int, seed uint64) []api.Row {
	r := &source{mixedBytes(seed, 4000, 0)}
	l := r.rows(s, n)
	if len(l) != n {
		panic("rows that may not be a block")
	}
	return l
}

// longFile is a whole file of n data frames and more, as writers lay it: a schema frame each eight data frames, now and then another schema or an index.
func longFile(n int) *laid {
	l := &laid{}
	schemas := []api.Schema{ints, two, floats, nested, texts, wide(16)}
	for i := range n {
		number := int64(i / 7)
		s := schemas[number%6]
		if i%8 == 0 || i%7 == 0 {
			l.schema(number, s)
		}
		l.data(someRows(s, 1+i*5%9, uint64(i)))
		if i%5 == 4 {
			l.index()
		}
	}
	return l
}

// made is a file that is laid.
func made(lay func(l *laid)) *laid {
	l := &laid{}
	lay(l)
	return l
}

// shortFiles are whole files of few bytes.
func shortFiles() []*laid {
	return []*laid{
		made(func(l *laid) {}),
		made(func(l *laid) { l.schema(0, ints) }),
		made(func(l *laid) { l.index() }),
		made(func(l *laid) {
			l.schema(0, ints)
			l.schema(0, ints)
			l.schema(1, floats)
			l.index()
			l.schema(1, floats)
		}),
		made(func(l *laid) { l.schema(0, ints); l.data(numbers(5)) }),
		made(func(l *laid) {
			l.schema(0, ints)
			l.data(numbers(1, 2))
			l.data(numbers(-3))
			l.data(numbers(slices.Repeat([]int64{7, 8}, 32)...))
			l.schema(0, ints)
		}),
		exampleFile(),
		made(func(l *laid) {
			l.index()
			l.schema(0, nested)
			l.index()
			l.data(someRows(nested, 1, 1))
			l.schema(0, nested)
			l.data(someRows(nested, 2, 2))
			l.index()
			l.schema(1, floats)
			l.schema(2, two)
			l.data(someRows(two, 4, 3))
			l.schema(2, two)
			l.index()
			l.lay(dataFrame(2, 3, 7, 2, "\x00\x02")) // no rows
			l.data(someRows(two, 2, 4))
		}),
	}
}

// wholeFiles are whole files, short ones and long ones.
func wholeFiles() []*laid {
	full := made(func(l *laid) {
		s, f := fullFrame(maxFrame)
		l.schema(0, s)
		l.lay(f)
		l.data(rows(rawBytes(string(row(0, 1000))), rawBytes(string(row(9, 1000)))))
		l.schema(1, longSchema(1024))
		l.data(rows(rawBytes("")))
	})
	return append(shortFiles(), full, longFile(9), longFile(45))
}

// exampleFile is that of the chapter's examples.
func exampleFile() *laid {
	return made(func(l *laid) {
		l.schema(0, ints)
		l.data(numbers(1, 2))
		l.data(numbers(3))
		l.schema(1, texts)
		l.data(rows(text("x")))
	})
}

// batches are the data frames of a whole file whose blocks are rows, in order.
func (l *laid) batches() []api.Batch {
	var all []api.Batch
	var last api.Schema
	for _, one := range l.all {
		if one.f.Kind == 1 {
			last = one.f.Schema
		}
		if one.f.Kind != 2 {
			continue
		}
		if told, e := batch.Unpack(last, one.f.Block, one.f.Rows); e == api.OK {
			all = append(all, saved(one.at, one.f.Number, one.f.Seq, one.f.First, told))
		}
	}
	return all
}

// survivors are those of them that P17.4 asks of other bytes in the file's place.
func (l *laid) survivors(b []byte) []api.Batch {
	kept := map[int64]string{}
	for k, one := range l.all {
		if one.f.Kind == 1 && l.unchanged(k, b) {
			kept[one.f.Number] = schemaText(fixed(one.f.Schema))
		}
	}
	for _, x := range wordFrames(b) {
		if kept[x.Number] != schemaText(x.Schema) {
			delete(kept, x.Number)
		}
	}
	unchanged := map[int]bool{}
	for k, one := range l.all {
		unchanged[one.at] = l.unchanged(k, b)
	}
	return slices.DeleteFunc(l.batches(), func(one api.Batch) bool { return !unchanged[one.At] || kept[one.Number] == "" })
}

// survive asks that All tells, of other bytes in a whole file's place, all that P17.4 asks, in order; and just what the words say. It tells how many these are, and how many All tells.
func survive(t *testing.T, l *laid, b []byte) (asked, told int) {
	t.Helper()
	got := asAll(t, b)
	want := l.survivors(b)
	left := got
	for _, one := range want {
		at := slices.IndexFunc(left, func(x api.Batch) bool { return batchText(x) == batchText(one) })
		if at < 0 {
			t.Fatalf("%s in the place of %s: not told, or not in order: %s", shown(b), shown(l.b), brief(batchText(one)))
		}
		left = left[at+1:]
	}
	return len(want), len(got)
}

// exactly asks that All tells what P17.4 asks, and nothing beyond.
func exactly(t *testing.T, l *laid, b []byte) int {
	t.Helper()
	asked, told := survive(t, l, b)
	if asked != told {
		t.Fatalf("%s in the place of %s: %d batches, want %d", shown(b), shown(l.b), told, asked)
	}
	return asked
}

func device(b []byte) *dev.Dev {
	d, _ := dev.New(api.MaxQuota)
	if d.Tail(b) != api.OK {
		panic("a file that is too long")
	}
	return d
}

// TestAllNone: P17.3: of no bytes, and of bytes without zeros, nothing.
func TestAllNone(t *testing.T) {
	data := encoded(dataOf(0, 0, 0, ints, numbers(1)))
	for _, b := range [][]byte{nil, {}, {5}, row(5, 9000), row(0, 9000), mixedBytes(1, 9000, 0), data, bytes.Repeat(data, 20), framesOf(common...), join(framesOf(named(1, ints)), data)} {
		if got := asAll(t, b); len(got) != 0 {
			t.Fatalf("of %s: %s", shown(b), brief(batchText(got...)))
		}
	}
}

// TestAllWhole: P17.3, P17.4: of a whole file All tells all its data frames whose blocks are rows, in order: those that the reader tells, where all blocks are.
func TestAllWhole(t *testing.T) {
	for _, l := range wholeFiles() {
		d := device(l.b)
		if _, at, e := scan.Whole(d); at != len(l.b) || e != api.ErrEnd {
			t.Fatalf("not a whole file: %d of %d, %d", at, len(l.b), e)
		}
		sameBatches(t, "All of a whole file", asAll(t, l.b), l.batches())
		r := reader.Raw(d)
		var read, saved strings.Builder
		for one, is := r.Next(); is; one, is = r.Next() {
			read.WriteString(rowText(one.Row) + "\n")
		}
		for _, one := range salvage.All(l.b) {
			for _, x := range one.Rows {
				saved.WriteString(rowText(x) + "\n")
			}
		}
		if r.Err() == api.OK && read.String() != saved.String() || !strings.HasPrefix(saved.String(), read.String()) {
			t.Fatalf("read: %s; saved: %s", brief(read.String()), brief(saved.String()))
		}
	}
}

// TestAllIsFeed: P17.3: All is Feed of a new Salvager by the bytes' own schemas, wherever these stand.
func TestAllIsFeed(t *testing.T) {
	for _, l := range wholeFiles() {
		for _, b := range [][]byte{l.b, l.b[len(l.b)/3:], join(l.b[len(l.b)/2:], l.b), join(l.b, framesOf(named(0, two))), slices.Concat(l.b, l.b)} {
			sameBatches(t, "All", asAll(t, b), salvage.New(salvage.Schemas(b)).Feed(b))
			w := streamOf(salvage.Schemas(b), b)
			w.pieces(t)
			w.pieces(t, singly(b, 1)...)
			w.pieces(t, singly(b, 999)...)
		}
	}
	turned := made(func(l *laid) { l.schema(0, ints) })
	data := encoded(dataOf(0, 0, 0, ints, numbers(1, 2)))
	sameBatches(t, "the schema behind the data", asAll(t, join(data, turned.b)), []api.Batch{saved(0, 0, 0, 0, numbers(1, 2))})
}

// TestAllFirst: P17.3, P17.4: of each of a file's first bytes: the data frames that are whole there; a schema frame ahead of them always is.
func TestAllFirst(t *testing.T) {
	for _, l := range wholeFiles() {
		step := 1 + len(l.b)/1500
		for n := 0; n <= len(l.b); n += step {
			whole := 0
			for _, one := range l.batches() {
				k := slices.IndexFunc(l.all, func(x taken) bool { return x.at == one.At })
				if l.behind(k) <= n {
					whole++
				}
			}
			if got := exactly(t, l, l.b[:n]); got != whole {
				t.Fatalf("%d bytes of %d: %d batches, want %d", n, len(l.b), got, whole)
			}
		}
		exactly(t, l, l.b)
	}
}

// TestOverwritten: P17.4: each byte of a file overwritten in turn: each data frame that it does not lie in is told, if a schema frame of its number is unchanged.
func TestOverwritten(t *testing.T) {
	for _, l := range shortFiles() {
		for k := range l.all {
			lost := 0
			for at := l.all[k].at; at < l.behind(k); at++ {
				for _, c := range []byte{0, 1, 5, 255, l.b[at] ^ 1, l.b[at] ^ 128, l.b[at] + 1} {
					if c == l.b[at] {
						continue
					}
					b := bytes.Clone(l.b)
					b[at] = c
					lost = len(l.batches()) - exactly(t, l, b)
				}
			}
			if want := l.lostBy(k); lost != want {
				t.Fatalf("frame %d: %d batches lost, want %d", k, lost, want)
			}
		}
	}
	for _, l := range wholeFiles()[len(shortFiles()):] {
		for at := 0; at < len(l.b); at += 1 + len(l.b)/700 {
			b := bytes.Clone(l.b)
			b[at] ^= byte(1 + at%255)
			exactly(t, l, b)
		}
	}
}

// lostBy is how many batches of a whole file are lost with its k-th frame: of a data frame its own, of a schema frame that is the only one of its number all of that number.
func (l *laid) lostBy(k int) int {
	x := l.all[k]
	others := 0
	for _, y := range l.all {
		if y.at != x.at && y.f.Kind == 1 && y.f.Number == x.f.Number {
			others++
		}
	}
	n := 0
	for _, one := range l.batches() {
		if x.f.Kind == 2 && one.At == x.at || x.f.Kind == 1 && others == 0 && one.Number == x.f.Number {
			n++
		}
	}
	return n
}

// TestOverwrittenTwice: P17.4: bytes in two places overwritten, rows of bytes, zeros and others, also such that reach over several frames.
func TestOverwrittenTwice(t *testing.T) {
	told := 0
	for f, l := range wholeFiles() {
		for k := range uint64(150) {
			b := bytes.Clone(l.b)
			for i := range 1 + k%4 {
				m := mixed(uint64(f)<<32 + k<<8 + i)
				if len(b) > 0 {
					at := int(m % uint64(len(b)))
					copy(b[at:], mixedBytes(m>>8, 1+int(m>>16%90), m>>32%4))
				}
			}
			told += exactly(t, l, b)
		}
	}
	if told < 5000 {
		t.Fatalf("only %d batches", told)
	}
}

// tails are bytes that may be put on.
func tails() [][]byte {
	data := encoded(dataOf(0, 90, 91, ints, numbers(1)))
	return [][]byte{
		nil, {0}, {5}, row(0, 20), row(5, 20), row(5, 5000), {0, 5}, {5, 0}, {0, 5, 0}, data, data[1:], data[:len(data)-1], framesOf(named(0, ints)), framesOf(named(0, two)), framesOf(named(1, texts)), framesOf(named(1, floats), named(2, ints)), framesOf(named(50, ints)), encoded(indexFrame(0, 0, 0)),
		framesOf(named(0, ints), named(0, texts), named(0, nested)), mixedBytes(5, 300, 4), mixedBytes(6, 300, 30), join(row(0, 1), row(5, maxFrame)),
	}
}

// TestEndPutOn: P17.4: the end cut, and others put in its place: noise, frames, schema frames of the same numbers with the same schema and with others.
func TestEndPutOn(t *testing.T) {
	all, lost := 0, 0
	for _, l := range shortFiles() {
		for _, tail := range tails() {
			for n := range len(l.b) + 1 {
				asked, _ := survive(t, l, join(l.b[:n], tail))
				whole, _ := survive(t, l, l.b[:n])
				all += asked
				lost += whole - asked
			}
		}
	}
	if all < 5000 || lost < 1000 {
		t.Fatalf("%d batches, %d lost by another schema", all, lost)
	}
}

// TestOtherSchema: P17.4: another schema of the number, in the place of any frame, ahead of all, behind all: no batch of that number; the same schema: all of them. Another schema that may not be is no frame, and takes nothing.
func TestOtherSchema(t *testing.T) {
	l := exampleFile()
	other, again := framesOf(named(0, floats)), framesOf(named(0, ints))
	none := []byte(nil)
	for _, run := range []string{"\x01\x00\x00", "\x01\x00\x01\x01A\x02\x00", "\x01\x00\x01\x01a\x02\x00\x00"} {
		none = append(none, fenced(runOf(run))...)
	}
	for k := range len(l.all) + 1 {
		at := len(l.b)
		if k < len(l.all) {
			at = l.all[k].at
		}
		for _, x := range []struct {
			b    []byte
			told int
		}{{other, 1}, {again, 3}, {none, 3}, {join(again, again), 3}, {join(again, other, again), 1}} {
			b := join(l.b[:at], x.b, l.b[at:])
			if got := asAll(t, b); len(got) != x.told {
				t.Fatalf("ahead of frame %d: %d batches, want %d", k, len(got), x.told)
			}
		}
	}
	if got := salvage.All(join(other, l.b, framesOf(named(1, ints)))); len(got) != 0 {
		t.Fatalf("other schemas of both numbers: %s", brief(batchText(got...)))
	}
}

// TestNoWholeFile: P17.3: bytes that are no whole file: frames in whatever order, numbers that fall, the same frame twice.
func TestNoWholeFile(t *testing.T) {
	l := longFile(20)
	want := map[string]int{}
	for _, one := range l.batches() {
		one.At = 0
		want[batchText(one)] = 2
	}
	for seed := range uint64(40) {
		var order []int
		for k := range 2 * len(l.all) {
			order = append(order, k%len(l.all))
		}
		slices.SortStableFunc(order, func(a, b int) int { return int(mixed(seed<<16+uint64(a))%1000) - int(mixed(seed<<16+uint64(b))%1000) })
		var b []byte
		for _, k := range order {
			b = append(b, l.b[l.all[k].at:l.behind(k)]...)
		}
		got := map[string]int{}
		for _, one := range asAll(t, b) {
			one.At = 0
			got[batchText(one)]++
		}
		if len(got) != len(want) {
			t.Fatalf("%d batches, want %d", len(got), len(want))
		}
		for x, n := range want {
			if got[x] != n {
				t.Fatalf("told %d times, want %d: %s", got[x], n, brief(x))
			}
		}
	}
}

// TestExamples: the chapter's examples.
func TestExamples(t *testing.T) {
	l := exampleFile()
	want := []api.Batch{saved(l.all[1].at, 0, 0, 0, numbers(1, 2)), saved(l.all[2].at, 0, 1, 2, numbers(3)), saved(l.all[4].at, 1, 2, 3, rows(text("x")))}
	sameBatches(t, "a whole file", asAll(t, l.b), want)
	b := bytes.Clone(l.b)
	b[l.all[2].at+3] ^= 9
	sameBatches(t, "its second D overwritten", asAll(t, b), []api.Batch{want[0], want[2]})
	b = bytes.Clone(l.b)
	b[l.all[0].at+3] ^= 9
	sameBatches(t, "S 0 overwritten", asAll(t, b), want[2:])
	sameBatches(t, "S 0 once more, further on", asAll(t, join(b, framesOf(named(0, ints)))), want)
	sameBatches(t, "bytes without zeros", asAll(t, mixedBytes(1, 500, 0)), nil)
}

// TestGreat: P17.3, P17.5: long streams: of frames, of zeros, of one run, of noise.
func TestGreat(t *testing.T) {
	frames := encoded(dataOf(3, 1, 2, ints, numbers(1)))
	b := join(bytes.Repeat(frames, 60000), framesOf(named(3, ints)))
	if got := salvage.All(b); len(got) != 60000 || got[59999].At != 59999*len(frames) {
		t.Fatalf("%d batches", len(got))
	}
	if got := salvage.All(join(b, framesOf(named(3, texts)))); len(got) != 0 {
		t.Fatalf("%d batches", len(got))
	}
	for _, b := range [][]byte{row(0, 3<<20), row(5, 3<<20), join(row(0, 1), row(5, 3<<20)), bytes.Repeat([]byte{0, 5}, 1<<20), bytes.Repeat(framesOf(named(0, ints)), 60000)} {
		if got := salvage.All(b); len(got) != 0 {
			t.Fatalf("of %s: %d batches", shown(b), len(got))
		}
	}
}
