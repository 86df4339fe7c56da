package reader_test

import (
	"math"
	"slices"
	"testing"

	"gabion/api"
	"gabion/scan"
)

// skips are how many rows are passed over: below 0, none, some of the first block, several blocks, all n, and more.
func skips(n int) []int {
	return []int{math.MinInt, -65, -1, 0, 1, 2, 3, n / 2, n - 1, n, n + 1, math.MaxInt}
}

// TestFromBeginning: P16.1: at 0, over a new walk: Raw's rows, but the first ones that are passed over.
func TestFromBeginning(t *testing.T) {
	for _, l := range wholeFiles() {
		d := device(l.b)
		all := raw(t, d).toEnd(t)
		for _, skip := range append(skips(len(all)), 7, 20, 64, 65, 66) {
			want := all[min(len(all), max(0, skip)):]
			p := from(t, d, 0, skip, scan.New(), words{})
			if got := p.toEnd(t); toldText(got...) != toldText(want...) || p.r.Err() != api.OK {
				t.Fatalf("%d rows passed over: %d rows, %d, want %d", skip, len(got), p.r.Err(), len(want))
			}
		}
	}
}

// TestFromFrames: P16.1, P16.2: at each frame's place, and behind the last one, over the walk of those ahead of it: the rows from there on, with their own numbers.
func TestFromFrames(t *testing.T) {
	for _, l := range wholeFiles() {
		d := device(l.b)
		all := raw(t, d).toEnd(t)
		for k := range len(l.all) + 1 {
			ahead := l.firstOf(k)
			for _, skip := range skips(len(all) - int(ahead.Rows())) {
				want := all[min(len(all), int(ahead.Rows())+min(len(all), max(0, skip))):]
				p := from(t, d, l.place(k), skip, ahead.walk(), ahead)
				if got := p.all(t); toldText(got...) != toldText(want...) || p.r.Err() != api.OK {
					t.Fatalf("from frame %d on, %d rows passed over: %d rows, %d, want %d", k, skip, len(got), p.r.Err(), len(want))
				}
				p.over(t)
			}
		}
	}
}

// TestFromByHand: P16.1: the rows that are passed over, told by hand: within the first block, over several blocks, over all rows.
func TestFromByHand(t *testing.T) {
	l := &laid{}
	l.schema(0, ints)
	l.data(numbers(10, 11, 12))
	l.data(numbers(13))
	l.index()
	l.schema(1, two)
	l.data([]api.Row{values(number(14), text("x")), values(number(15), text("y"))})
	d := device(l.b)
	all := []api.Told{one(0, 0, number(10)), one(1, 0, number(11)), one(2, 0, number(12)), one(3, 0, number(13)), one(4, 1, number(14), text("x")), one(5, 1, number(15), text("y"))}
	for skip, left := range []int{0, 1, 2, 3, 4, 5, 6, 6, 6} {
		from(t, d, 0, skip, scan.New(), words{}).must(t, api.OK, all[left:]...)
	}
	for _, x := range []struct{ k, skip, left int }{
		{1, 0, 0}, {1, 2, 2}, {1, 3, 3}, {2, 0, 3}, {2, 1, 4}, {2, 2, 5}, {3, 0, 4}, {3, 1, 5}, {4, -1, 4}, {4, 1, 5}, {5, 0, 4}, {5, 1, 5}, {5, 2, 6}, {6, 0, 6}, {6, 5, 6},
	} {
		from(t, d, l.place(x.k), x.skip, l.firstOf(x.k).walk(), l.firstOf(x.k)).must(t, api.OK, all[x.left:]...)
	}
}

// TestFromReadsNothing: P16.1, P16.2: rows are passed over by the first Next, not ahead of it; then it reads up to the first row that is told, and no further.
func TestFromReadsNothing(t *testing.T) {
	l := longFile(20)
	d := device(l.b)
	frames := 0
	for skip := range int(l.Rows()) {
		for l.all[frames].f.Kind != 2 || l.all[frames].f.First+int64(l.all[frames].f.Rows) <= int64(skip) {
			frames++
		}
		want := 0
		for k := range frames + 1 {
			want += min(mostRead, len(l.b)-l.place(k))
		}
		p := from(t, d, 0, skip, scan.New(), words{})
		counted := d.Counted()
		if told, is := p.next(t); !is || told.At != int64(skip) || d.Counted()-counted != want {
			t.Fatalf("%d rows passed over: row %d, %v, %d bytes read, want %d", skip, told.At, is, d.Counted()-counted, want)
		}
	}
}

// TestFromPlaces: P16.2: places within a frame, below 0 and behind the end, whatever the walk and the skip are.
func TestFromPlaces(t *testing.T) {
	for _, l := range []*laid{{}, wholeFiles()[4], wholeFiles()[7], longFile(9)} {
		d := device(l.b)
		n := len(l.b)
		for _, k := range []int{0, len(l.all) / 2, len(l.all)} {
			ahead := l.firstOf(k)
			for _, at := range []int{math.MinInt, -2, -1, n + 1, n + 2, n + 5000, math.MaxInt} {
				for _, skip := range []int{-1, 0, 1, math.MaxInt} {
					from(t, d, at, skip, ahead.walk(), ahead).must(t, api.ErrRange)
				}
			}
			from(t, d, n, 0, ahead.walk(), ahead).must(t, api.OK)
			for at := range n {
				if slices.ContainsFunc(l.all, func(one taken) bool { return one.at == int64(at) }) {
					continue
				}
				want := api.ErrFence
				switch {
				case at == n-1:
					want = api.ErrTorn
				case l.b[at] == 0:
					want = api.ErrEmpty
				}
				from(t, d, at, at%3, ahead.walk(), ahead).must(t, want)
			}
		}
	}
}

// TestFromOtherWalks: P16.2: the walk of other frames than those ahead of the place: what does not follow these is ErrOrder.
func TestFromOtherWalks(t *testing.T) {
	for _, l := range []*laid{wholeFiles()[5], wholeFiles()[6], wholeFiles()[7], longFile(9)} {
		d := device(l.b)
		wrong := 0
		for k := range len(l.all) + 1 {
			for j := range len(l.all) + 1 {
				p := from(t, d, l.place(j), k%2, l.firstOf(k).walk(), l.firstOf(k))
				p.toEnd(t)
				if p.r.Err() == api.ErrOrder {
					wrong++
				}
			}
		}
		if wrong < len(l.all) {
			t.Fatalf("only %d times ErrOrder", wrong)
		}
	}
	l := longFile(9)
	from(t, device(l.b), l.place(1), 0, scan.New(), words{}).must(t, api.ErrOrder)
	from(t, device(l.b), l.place(3), 0, l.firstOf(2).walk(), l.firstOf(2)).must(t, api.ErrOrder)
}

// TestFromResumed: P16.1, P16.2: over a walk that an index's entry resumes, at that entry's place: the rows from there on.
func TestFromResumed(t *testing.T) {
	for _, n := range []int{5, 9, 33} {
		l := longFile(n)
		d := device(l.b)
		w, _, _ := scan.Whole(d)
		all := raw(t, d).toEnd(t)
		x := api.Index{Entries: w.Entries()}
		for k, at := range x.Entries {
			f, _, _ := scan.At(d, int(at.Schema))
			s := api.Numbered{Number: f.Number, Schema: f.Schema}
			begun := words{frames: 4 * int64(k), count: at.Row, begun: x.Entries[:k], all: []taken{{f, at.Schema}}}
			for _, skip := range []int{-1, 0, 1, 10, len(all)} {
				p := from(t, d, int(at.At), skip, scan.Resume(x, k, s), begun)
				want := all[min(len(all), int(at.Row)+max(0, skip)):]
				if got := p.toEnd(t); toldText(got...) != toldText(want...) || p.r.Err() != api.OK {
					t.Fatalf("entry %d of %d: %d rows, %d, want %d", k, len(x.Entries), len(got), p.r.Err(), len(want))
				}
			}
		}
	}
}

// TestFromRowNumbers: P16.2: a row's number is the frame's First and its place in the block, up to the greatest one that may be.
func TestFromRowNumbers(t *testing.T) {
	const first = int64(1)<<40 - 1
	x := api.Index{Entries: []api.Entry{entry(0, first, 0)}}
	d := device(join(encoded(dataFrame(5, 0, first, 3, "\x00\x02\x04\x06")), encoded(schemaFrame(5, ints)), encoded(dataFrame(5, 1, 7, 1, "\x00\x02"))))
	begun := words{count: first, all: []taken{{schemaFrame(5, ints), 0}}}
	w := scan.Resume(x, 0, api.Numbered{Number: 5, Schema: ints})
	from(t, d, 0, 0, w, begun).must(t, api.ErrOrder, one(first, 5, number(1)), one(first+1, 5, number(2)), one(first+2, 5, number(3)))
	from(t, d, 0, 2, w, begun).must(t, api.ErrOrder, one(first+2, 5, number(3)))
}

// TestFromWalkStays: P16.1, R4, R5: the walk that was handed in stays as it was, whatever the reader reads, and goes on by itself; what it takes is nothing to the reader.
func TestFromWalkStays(t *testing.T) {
	for _, l := range []*laid{wholeFiles()[0], wholeFiles()[4], wholeFiles()[7], longFile(20)} {
		d := device(l.b)
		for k := range len(l.all) + 1 {
			ahead := l.firstOf(k)
			w := ahead.walk()
			before := standing(w)
			p, q := from(t, d, l.place(k), 0, w, ahead), from(t, d, l.place(k), 1, w, ahead)
			p.next(t)
			if standing(w) != before {
				t.Fatalf("behind frame %d: Next changed the walk", k)
			}
			number := w.Number() + 1
			if w.Next(schemaFrame(number, longSchema(300)), 7) != api.OK || w.Next(dataFrame(number, w.Frames(), w.Rows(), 9, ""), 8) != api.OK || w.Next(indexFrame(9, w.Frames(), w.Rows(), w.Entries()...), 9) != api.OK {
				t.Fatalf("behind frame %d: the walk does not go on", k)
			}
			changed := standing(w)
			q.toEnd(t)
			p.toEnd(t)
			if standing(w) != changed || p.r.Err() != api.OK || q.r.Err() != api.OK {
				t.Fatalf("behind frame %d: the walk and its readers hang together: %d, %d", k, p.r.Err(), q.r.Err())
			}
		}
	}
}

// TestFromSkipsErrors: P16.1, P16.2: what the reader ends for among the rows that are passed over, it ends for.
func TestFromSkipsErrors(t *testing.T) {
	l := &laid{}
	l.schema(0, ints)
	l.data(numbers(1, 2))
	l.data(numbers(3, 4))
	two := len(l.b)
	l.lay(l.ownData(2, "\x00\x06"))
	l.data(numbers(5))
	for skip := range 9 {
		want := []api.Told{one(0, 0, number(1)), one(1, 0, number(2)), one(2, 0, number(3)), one(3, 0, number(4))}[min(4, skip):]
		from(t, device(l.b), 0, skip, scan.New(), words{}).must(t, api.ErrShort, want...)
		from(t, device(join(l.b[:two], row(5, 3))), 0, skip, scan.New(), words{}).must(t, api.ErrFence, want...)
		from(t, device(l.b[:two+3]), 0, skip, scan.New(), words{}).must(t, api.ErrTorn, want...)
	}
}

// TestFromDown: P16.2: of a file that is down ErrDown, also of places that there are not.
func TestFromDown(t *testing.T) {
	l := longFile(9)
	d := device(l.b)
	takeDown(d)
	for _, at := range []int{-1, 0, 5, len(l.b), len(l.b) + 1, math.MaxInt} {
		from(t, d, at, 1, scan.New(), words{}).must(t, api.ErrDown)
	}
}
