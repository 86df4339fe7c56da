package index_test

import (
	"testing"

	"gabion/api"
	"gabion/dev"
	"gabion/index"
)

// TestSlow: P18.3: whole files, at each row, below 0 and behind the last one.
func TestSlow(t *testing.T) {
	for _, l := range wholeFiles() {
		p := lookAt(device(l.b))
		if int64(len(p.beginning.told)) != l.Rows() || p.beginning.end != api.OK {
			t.Fatalf("the words tell %d rows of %d, %d", len(p.beginning.told), l.Rows(), p.beginning.end)
		}
		for _, n := range l.asked() {
			r, e := index.Slow(p.d, n)
			hold(t, n, r, e, p.slow(n))
			if (e == api.OK) != (n >= 0 && n < l.Rows()) {
				t.Fatalf("Slow(%d) of %d rows: %d", n, l.Rows(), e)
			}
		}
	}
}

// TestSlowByHand: P18.3: within a block, at a block's first and last row, the last row, just behind it and far behind, told by hand.
func TestSlowByHand(t *testing.T) {
	l := &laid{}
	l.schema(0, ints)
	l.data(numbers(10, 11, 12))
	l.data(numbers(13))
	l.schema(1, two)
	l.data([]api.Row{values(number(14), text("x")), values(number(15), text("y"))})
	d := device(l.b)
	all := []api.Told{one(0, 0, number(10)), one(1, 0, number(11)), one(2, 0, number(12)), one(3, 0, number(13)), one(4, 1, number(14), text("x")), one(5, 1, number(15), text("y"))}
	for n := range all {
		must(t, d, int64(n), api.OK, all[n:]...)
	}
	for _, n := range append(l.behind(), -1, -2, -1<<63) {
		mustRefuse(t, d, n, api.ErrRange)
	}
}

// TestSlowDown: P18.3, P18.4: of a file that is down ErrDown, also of numbers below 0; nothing is read.
func TestSlowDown(t *testing.T) {
	for _, l := range []*laid{{}, exampleFile(), plainFile(3, 2), longFile(9)} {
		d := device(l.b)
		takeDown(d)
		for _, n := range l.asked() {
			mustRefuse(t, d, n, api.ErrDown)
		}
		if d.Counted() != 0 {
			t.Fatalf("%d bytes were read of a file that is down", d.Counted())
		}
		d.Start()
		p := lookAt(d)
		for _, n := range l.asked() {
			p.ask(t, n)
		}
	}
}

// TestSlowNothing: P18.3, P18.4: files without rows have none of any number.
func TestSlowNothing(t *testing.T) {
	bare := &laid{}
	bare.schema(0, ints)
	bare.index()
	for _, b := range [][]byte{nil, {0}, {5}, row(0, 5000), row(5, 5000), encoded(indexFrame(0, 0, 0)), encoded(indexFrame(0, 0, 0, entry(0, 0, 0))), encoded(schemaFrame(0, ints)), bare.b} {
		for _, n := range []int64{-1, 0, 1, 5, 1 << 40, 1<<63 - 1} {
			mustRefuse(t, device(b), n, api.ErrRange)
		}
	}
}

// TestSlowEnds: P18.3: files that end by an error behind some rows: these are told, and then the reader ends for just that; of a row behind these ErrRange.
func TestSlowEnds(t *testing.T) {
	for _, l := range begun() {
		for _, x := range append(atEndings(), orderEndings(l)...) {
			asksEnding(t, l, device(join(l.b, x.b)), x.want)
		}
	}
}

// asksEnding asks of all rows of a file, and behind them, if a reader ends there for an error.
func asksEnding(t *testing.T, l *laid, d *dev.Dev, want api.Errno) {
	t.Helper()
	p := lookAt(d)
	if int64(len(p.beginning.told)) != l.Rows() || p.beginning.end != want {
		t.Fatalf("the words tell %d rows of %d, and %d, want %d", len(p.beginning.told), l.Rows(), p.beginning.end, want)
	}
	for _, n := range append(l.edges(), -1, l.Rows(), l.Rows()+1) {
		r, e := index.Slow(d, n)
		hold(t, n, r, e, p.slow(n))
		r, e = index.Seek(d, n)
		told, _ := p.seek(n)
		hold(t, n, r, e, told)
	}
}

// TestSlowBlocks: P18.3: a block that is no rows, in each way: the rows ahead of it are told, none of its own, and none behind.
func TestSlowBlocks(t *testing.T) {
	for _, x := range wrongBlocks() {
		l := plainFile(2, 1)
		l.schema(1, x.s)
		b := join(l.b, encoded(l.ownData(x.rows, x.b)))
		asksEnding(t, l, device(b), x.want)
		more := *l
		more.lay(l.ownData(x.rows, x.b))
		more.schema(1, x.s)
		more.lay(more.ownData(1, "\x00\x02"))
		asksEnding(t, l, device(more.b), x.want)
	}
}

// TestSlowReadsNoIndex: P18.3: an index that is fresh and wrong is nothing to Slow, until it reads it in its turn.
func TestSlowReadsNoIndex(t *testing.T) {
	l := plainFile(1, 1, 1, 1, 1)
	at := int64(len(l.b))
	b := join(l.b, encoded(indexFrame(at, 5, 5, entry(int64(l.place(5)), 0, 0))))
	p := lookAt(device(b))
	if _, is := p.askLast(t); !is {
		t.Fatalf("that index is not fresh")
	}
	for n := range int64(7) {
		r, e := index.Slow(p.d, n)
		if n >= 5 {
			hold(t, n, r, e, answer{e: api.ErrRange})
			continue
		}
		hold(t, n, r, e, answer{told: p.beginning.told[n:], end: api.ErrOrder})
	}
}
