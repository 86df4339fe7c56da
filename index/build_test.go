package index_test

import (
	"slices"
	"testing"

	"gabion/api"
	"gabion/index"
	"gabion/scan"
)

// TestBuild: P18.1: of whole files, with and without index frames, what their frames come to, behind their last byte.
func TestBuild(t *testing.T) {
	for k, l := range wholeFiles() {
		x, e := lookAt(device(l.b)).askBuild(t)
		if e != api.OK || x.At != int64(len(l.b)) || x.Frames != l.Frames() || x.Rows != l.Rows() || !slices.Equal(x.Entries, l.Entries()) {
			t.Fatalf("file %d: %s, %d", k, indexText(x), e)
		}
	}
}

// TestBuildByHand: P18.1: a file of no bytes, of a few frames, told by hand: an entry for the first of each four data frames, with the place of its schema frame.
func TestBuildByHand(t *testing.T) {
	must := func(l *laid, want api.Index) {
		t.Helper()
		if x, e := lookAt(device(l.b)).askBuild(t); e != api.OK || indexText(x) != indexText(want) {
			t.Fatalf("%s, %d, want %s", indexText(x), e, indexText(want))
		}
	}
	l := &laid{}
	must(l, api.Index{})
	l.schema(0, ints)
	must(l, api.Index{At: int64(len(l.b))})
	first := int64(len(l.b))
	for i := range int64(4) {
		l.data(numbers(1, 2, 3))
		must(l, api.Index{At: int64(len(l.b)), Frames: i + 1, Rows: 3*i + 3, Entries: []api.Entry{entry(first, 0, 0)}})
	}
	again := int64(len(l.b))
	l.schema(0, ints)
	l.schema(1, texts)
	must(l, api.Index{At: int64(len(l.b)), Frames: 4, Rows: 12, Entries: []api.Entry{entry(first, 0, 0)}})
	texty := again + int64(len(encoded(schemaFrame(0, ints))))
	second := int64(len(l.b))
	l.data(rows(text("x")))
	must(l, api.Index{At: int64(len(l.b)), Frames: 5, Rows: 13, Entries: []api.Entry{entry(first, 0, 0), entry(second, 12, texty)}})
	l.index()
	must(l, api.Index{At: int64(len(l.b)), Frames: 5, Rows: 13, Entries: []api.Entry{entry(first, 0, 0), entry(second, 12, texty)}})
}

// TestBuildMany: P18.1: more data frames than one index can tell: 64 entries, of the first ones.
func TestBuildMany(t *testing.T) {
	for _, n := range []int{252, 253, 256, 257, 300} {
		l := plainFile(slices.Repeat([]int{2}, n)...)
		x, e := lookAt(device(l.b)).askBuild(t)
		want := min(64, (n+3)/4)
		if e != api.OK || x.Frames != int64(n) || x.Rows != int64(2*n) || len(x.Entries) != want {
			t.Fatalf("%d data frames: %d, %d, %d entries, %d", n, x.Frames, x.Rows, len(x.Entries), e)
		}
		for k, one := range x.Entries {
			if one.Row != int64(8*k) || one.Schema != 0 || one.At != int64(l.place(1+4*k)) {
				t.Fatalf("%d data frames, entry %d: %v", n, k, one)
			}
		}
	}
}

// TestBuildDown: P18.1: of a file that is down ErrDown, and no index; nothing is read.
func TestBuildDown(t *testing.T) {
	for _, l := range []*laid{{}, exampleFile(), longFile(9)} {
		d := device(l.b)
		takeDown(d)
		if x, e := lookAt(d).askBuild(t); e != api.ErrDown || indexText(x) != indexText(api.Index{}) || d.Counted() != 0 {
			t.Fatalf("of a file that is down: %s, %d, %d bytes read", indexText(x), e, d.Counted())
		}
		d.Start()
		if _, e := lookAt(d).askBuild(t); e != api.OK {
			t.Fatalf("of a file that is up again: %d", e)
		}
	}
}

// TestBuildErrors: P18.1: each error of scan.Whole but ErrEnd, behind some frames and at once: no index then.
func TestBuildErrors(t *testing.T) {
	for _, l := range begun() {
		for _, x := range append(atEndings(), orderEndings(l)...) {
			d := device(join(l.b, x.b))
			if _, _, e := scan.Whole(d); e != x.want {
				t.Fatalf("scan.Whole: %d, want %d", e, x.want)
			}
			if got, e := lookAt(d).askBuild(t); e != x.want || len(got.Entries) > 0 {
				t.Fatalf("%d, want %d", e, x.want)
			}
		}
	}
}

// TestBuildCut: P18.1: a file cut at each place: an index just where a frame ends.
func TestBuildCut(t *testing.T) {
	l := longFile(9)
	for n := range len(l.b) + 1 {
		ends := n == len(l.b) || slices.ContainsFunc(l.all, func(one taken) bool { return one.at == int64(n) })
		if _, e := lookAt(device(l.b[:n])).askBuild(t); (e == api.OK) != ends || !ends && e != api.ErrTorn {
			t.Fatalf("cut at %d: %d", n, e)
		}
	}
}

// TestBuildBlocks: P18.1: blocks are not looked at: such as are no rows stand in an index like others.
func TestBuildBlocks(t *testing.T) {
	for _, x := range wrongBlocks() {
		l := &laid{}
		l.schema(0, x.s)
		l.lay(l.ownData(x.rows, x.b))
		if got, e := lookAt(device(l.b)).askBuild(t); e != api.OK || got.Frames != 1 || got.Rows != int64(x.rows) || len(got.Entries) != 1 {
			t.Fatalf("%.20x: %s, %d", x.b, indexText(got), e)
		}
	}
}

// TestBuildIsLast: P18.1, P18.2: what Build tells, laid behind the file: it is whole, and, behind a data frame or at the beginning, Last tells just that.
func TestBuildIsLast(t *testing.T) {
	for k, l := range append(wholeFiles(), longFile(270)) {
		d := device(l.b)
		x, _ := index.Build(d)
		d.Tail(encoded(api.Frame{Kind: api.IndexFrame, Index: x}))
		if w, _, e := scan.Whole(d); e != api.ErrEnd || !w.Closed() {
			t.Fatalf("file %d: with its index it is not whole: %d", k, e)
		}
		got, is := lookAt(d).askLast(t)
		behind := len(l.all) == 0 || l.all[len(l.all)-1].f.Kind == 2
		if is != behind || is && indexText(got) != indexText(x) {
			t.Fatalf("file %d: Last: %s, %v, want %s", k, indexText(got), is, indexText(x))
		}
	}
}
