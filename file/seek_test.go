package file_test

import (
	"bytes"
	"math"
	"testing"

	"gabion/api"
	"gabion/dev"
	"gabion/file"
	"gabion/index"
)

// seekable are whole files: of few rows and of many, of one schema and of several, opened once and again and again.
func seekable(t *testing.T) []*file.File {
	t.Helper()
	var files []*file.File
	for _, steps := range [][]step{shortScript()[:1], shortScript()[:4], shortScript(), again(), script()} {
		files = append(files, written(t, steps...))
		f := newFile(maxQuota)
		for k, one := range steps {
			if k > 0 && k%3 == 0 {
				mustClose(t, f, true)
			}
			if !f.Opened() {
				must(t, "Open", f.Open(one.s), api.OK)
			}
			must(t, "Change", f.Change(one.s), api.OK)
			must(t, "Append", f.Append(one.l), api.OK)
		}
		files = append(files, f)
	}
	return files
}

// asFromBeginning: P0.5: from each number on From tells the rows that Rows tells behind as many, and ends for what that ends for.
func asFromBeginning(t *testing.T, f *file.File) int {
	t.Helper()
	all, why := f.Rows()
	for n := range int64(len(all)) {
		l, e := f.From(n)
		mustTell(t, "From", l, e, all[n:], why)
	}
	for _, n := range []int64{-1, math.MinInt64, int64(len(all)), int64(len(all)) + 1, 1 << 40, math.MaxInt64} {
		l, e := f.From(n)
		mustTell(t, "From", l, e, nil, api.ErrRange)
	}
	return len(all)
}

// TestSeekFresh: P0.5: without an index, with one that is fresh, with one that is stale: the same as from the beginning.
func TestSeekFresh(t *testing.T) {
	for _, f := range seekable(t) {
		n := asFromBeginning(t, f)
		if f.Opened() {
			mustClose(t, f, true)
		}
		if asFromBeginning(t, f) != n || lastOf(f.Bytes()).f.Kind != 3 {
			t.Fatalf("other rows with an index")
		}
		must(t, "Open", f.Open(two), api.OK)
		for k := range 5 {
			must(t, "Append", f.Append([]api.Row{values(number(int64(k)), text("more"))}), api.OK)
			if asFromBeginning(t, f) != n+k+1 {
				t.Fatalf("other rows behind an append")
			}
		}
	}
}

// TestSeekOverwritten: P0.5: the index overwritten in each of its bytes, with each bit and some others: the same rows as ahead of it, and as from the beginning.
func TestSeekOverwritten(t *testing.T) {
	for _, steps := range [][]step{shortScript(), again()} {
		f := closed(t, written(t, steps...))
		whole := f.Bytes()
		all, _ := f.Rows()
		x := lastOf(whole)
		for at := x.from; at < x.to; at++ {
			for _, v := range []byte{0, 1, 99, 255, whole[at] ^ 1, whole[at] ^ 16, whole[at] ^ 128} {
				must(t, "Damage", f.Damage(at, v), api.OK)
				for _, n := range []int64{0, 1, int64(len(all)) - 1} {
					l, e := f.From(n)
					mustTell(t, "From", l, e, all[n:], second(f.Rows()))
				}
				must(t, "From", second(f.From(int64(len(all)))), api.ErrRange)
			}
			asFromBeginning(t, f)
			must(t, "Damage", f.Damage(at, whole[at]), api.OK)
		}
	}
}

// TestSeekNoise: P0.5: the index cut at each place, and noise, zeros, other frames, or that index once more, in the place of its end.
func TestSeekNoise(t *testing.T) {
	f := closed(t, written(t, again()...))
	whole := f.Bytes()
	all, _ := f.Rows()
	x := lastOf(whole)
	for n := x.from; n <= x.to; n++ {
		for _, tail := range append(tails(), whole[x.from:], encoded(x.f)) {
			b := join(whole[:n], tail)
			g := fileOf(b)
			l, _ := g.Rows()
			if len(l) < len(all) {
				t.Fatalf("%d rows, want %d", len(l), len(all))
			}
			if n%4 == 0 {
				asFromBeginning(t, g)
			}
			m, e := g.From(int64(len(all)) - 1)
			mustTell(t, "From", m, e, l[len(all)-1:], second(g.Rows()))
		}
	}
}

// TestSeekWrongIndex: P0.5: an index whose check is right, and that is fresh, but whose entries are not: in each number of each entry, in another order, some left out, too many: the same rows.
func TestSeekWrongIndex(t *testing.T) {
	f := closed(t, written(t, again()...))
	whole := f.Bytes()
	all, _ := f.Rows()
	x := lastOf(whole)
	right := x.f.Index
	mustSeek := func(entries ...api.Entry) {
		t.Helper()
		wrong := indexFrame(right.At, right.Frames, right.Rows, entries...)
		g := fileOf(join(whole[:x.from], encoded(wrong)))
		for n := range int64(len(all)) {
			l, _ := g.From(n)
			mustTell(t, "From", l, api.OK, all[n:], api.OK)
		}
		must(t, "From", second(g.From(int64(len(all)))), api.ErrRange)
	}
	places := []int64{0, 1, 2, 11, right.At, 1<<40 - 1}
	for _, one := range framesOf(whole) {
		places = append(places, int64(one.from), int64(one.to)-1)
	}
	for k := range right.Entries {
		for _, n := range places {
			for field := range 3 {
				e := copied(right.Entries)
				switch field {
				case 0:
					e[k].At = n
				case 1:
					e[k].Row = n
				case 2:
					e[k].Schema = n
				}
				mustSeek(e...)
			}
		}
		mustSeek(append(copied(right.Entries[:k]), right.Entries[k+1:]...)...)
		mustSeek(copied(right.Entries[:k])...)
		e := copied(right.Entries)
		e[0], e[k] = e[k], e[0]
		mustSeek(e...)
	}
	mustSeek(append(copied(right.Entries), entry(0, 0, 0), entry(int64(framesOf(whole)[1].from), 0, 0))...)
	for _, wrong := range []api.Frame{indexFrame(right.At, right.Frames+1, right.Rows, right.Entries...), indexFrame(right.At, right.Frames, right.Rows+1, right.Entries...), indexFrame(right.At, right.Frames, right.Rows-1, right.Entries...), indexFrame(right.At+1, right.Frames, right.Rows, right.Entries...)} {
		g := fileOf(join(whole[:x.from], encoded(wrong)))
		asFromBeginning(t, g)
	}
}

// copied is a copy.
func copied(l []api.Entry) []api.Entry { return append([]api.Entry(nil), l...) }

// bigFile is a file of frames as long as they may be: n data frames; another schema each `change` of them (never, if that is 0), a Close each `closing` of the last twelve; each schema has about a thousand bytes. It is closed, by an index.
func bigFile(t *testing.T, n, change, closing int) *file.File {
	t.Helper()
	schemas := []api.Schema{of(with("a", ofBytes, rawBytes(string(mixedBytes(1, 900, 0))))), of(with("b", ofBytes, rawBytes(string(mixedBytes(2, 900, 0)))))}
	f := newFile(maxQuota)
	must(t, "Open", f.Open(schemas[0]), api.OK)
	for k := range n {
		if change > 0 {
			must(t, "Change", f.Change(schemas[k/change%2]), api.OK)
		}
		must(t, "Append", f.Append(rows(rawBytes(string(mixedBytes(uint64(k), 1000, 0))), rawBytes(string(mixedBytes(uint64(k+n), 1000, 0))))), api.OK)
		if closing > 0 && k%closing == 0 && k >= n-12 && k < n-1 {
			mustClose(t, f, true)
			must(t, "Open", f.Open(schemas[0]), api.OK)
		}
	}
	mustClose(t, f, true)
	return f
}

// TestSeekIsShort: P0.6: behind a Close that wrote its index, of a file of as many data frames as its index tells: a seek, up to its first row, reads few bytes, whichever row it is; From of the last row likewise, which reads to the end.
func TestSeekIsShort(t *testing.T) {
	for _, x := range []struct{ n, change, closing int }{{1, 0, 0}, {3, 1, 1}, {4, 1, 1}, {5, 1, 1}, {40, 1, 1}, {256, 0, 0}, {256, 0, 1}, {250, 1, 0}, {250, 1, 1}, {256, 3, 5}, {255, 9, 4}} {
		f := bigFile(t, x.n, x.change, x.closing)
		d, _ := dev.New(0)
		d.Tail(f.Bytes())
		most := 0
		for n := range int64(2 * x.n) {
			before := d.Counted()
			r, e := index.Seek(d, n)
			must(t, "Seek", e, api.OK)
			if one, is := r.Next(); !is || one.At != n {
				t.Fatalf("%+v: row %d: %v, %d", x, n, is, one.At)
			}
			most = max(most, d.Counted()-before)
		}
		before := f.Counted()
		l, e := f.From(int64(2*x.n) - 1)
		if len(l) != 1 || e != api.OK || f.Counted()-before > mostShort {
			t.Fatalf("%+v: From of the last row: %d rows, %d, %d bytes read", x, len(l), e, f.Counted()-before)
		}
		if most > mostShort {
			t.Fatalf("%+v: a seek read %d bytes, at most %d may be", x, most, mostShort)
		}
		before = f.Counted()
		if f.Rows(); x.n >= 40 && f.Counted()-before < 2*mostShort {
			t.Fatalf("%+v: reading all is short, too: %d bytes", x, f.Counted()-before)
		}
	}
}

// TestSeekIsLong: P0.6: where no index was written, or it is stale, the rows are told all the same, from the beginning on.
func TestSeekIsLong(t *testing.T) {
	f := bigFile(t, 60, 0, 0)
	must(t, "Open", f.Open(ints), api.OK)
	must(t, "Append", f.Append(numbers(5)), api.OK)
	before := f.Counted()
	l, e := f.From(120)
	mustTell(t, "From", l, e, told(120, 1, numbers(5)...), api.OK)
	if f.Counted()-before < 60*2000 {
		t.Fatalf("only %d bytes were read", f.Counted()-before)
	}
	mustClose(t, f, true)
	before = f.Counted()
	l, e = f.From(120)
	mustTell(t, "From", l, e, told(120, 1, numbers(5)...), api.OK)
	if f.Counted()-before > mostShort {
		t.Fatalf("%d bytes were read", f.Counted()-before)
	}
}

// TestSeekMany: P0.5: a file of more data frames than its index tells.
func TestSeekMany(t *testing.T) {
	f := newFile(maxQuota)
	must(t, "Open", f.Open(ints), api.OK)
	for k := range int64(300) {
		must(t, "Append", f.Append(numbers(k)), api.OK)
	}
	mustClose(t, f, true)
	if n := len(lastOf(f.Bytes()).f.Index.Entries); n != 64 {
		t.Fatalf("%d entries", n)
	}
	asFromBeginning(t, f)
	if !bytes.Equal(f.Bytes(), f.Clone().Bytes()) {
		t.Fatalf("reading changed the file")
	}
}
