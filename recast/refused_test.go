package recast_test

import (
	"bytes"
	"math"
	"testing"

	"gabion/api"
	"gabion/dev"
	"gabion/recast"
	"gabion/writer"
)

// mustRefuse asks that a call is refused ahead of reading: nothing is told of `from`, and the counts are zero; of a file whose reading would end in an error, too.
func mustRefuse(t *testing.T, to *dev.Dev, s api.Schema, want api.Errno) {
	t.Helper()
	short := written(shortScript()...)
	for _, from := range []*dev.Dev{short, newDev(0), devOf(1000, short.All()[:short.Len()-1]), takeDown(short.Clone())} {
		before := state(from)
		mustRecast(t, from, to.Clone(), s, 2, 0, 0, want)
		if state(from) != before {
			t.Fatalf("it was read ahead of %d", want)
		}
	}
}

// TestOpenSchema: P22.1: each error of schema.Check, ahead of what is wrong with `to`, which stays as it is.
func TestOpenSchema(t *testing.T) {
	short := written(shortScript()...)
	torn := devOf(1000, short.All()[:short.Len()-1])
	damaged := short.Clone()
	damaged.Damage(dataOf(short)[1].from+3, 200)
	for _, one := range refusedSchemas() {
		for _, to := range []*dev.Dev{newDev(1000), short, torn, damaged, takeDown(torn.Clone())} {
			mustRefuse(t, to, one.s, one.want)
			before := state(to)
			mustRecast(t, short, to, one.s, 2, 0, 0, one.want)
			if state(to) != before {
				t.Fatalf("a refused schema changed the file")
			}
		}
	}
}

// TestOpenRepair: P22.1: each error of a repair of `to`: it is down, damaged, power fails in the cut.
func TestOpenRepair(t *testing.T) {
	short := written(shortScript()...)
	mustRefuse(t, takeDown(newDev(1000)), ints, api.ErrDown)
	mustRefuse(t, takeDown(short.Clone()), ints, api.ErrDown)
	damaged := short.Clone()
	damaged.Damage(dataOf(short)[1].from+3, 200)
	mustRefuse(t, damaged, ints, api.ErrDamaged)
	mustRefuse(t, takeDown(damaged), ints, api.ErrDown)
	torn := devOf(1000, short.All()[:short.Len()-1])
	torn.Fail(0, 0)
	mustRefuse(t, torn, ints, api.ErrPower)
	mustRecast(t, short, torn, ints, 2, 0, 0, api.ErrPower)
	mustRecast(t, short, torn, ints, 2, 0, 0, api.ErrDown)
	torn.Start()
	mustRecast(t, written(step{ints, numbers(13, 14, 15)}), torn, ints, 2, 3, 0, api.OK)
}

// TestRepairs: P22.1: a torn `to` is repaired first, also where `from` has no row; the rows that it keeps stand ahead.
func TestRepairs(t *testing.T) {
	whole := written(step{ints, numbers(1, 2)}, step{ints, numbers(3)}, step{ints, numbers(4, 5)})
	last := dataOf(whole)[2]
	for n := last.from; n < last.to; n++ {
		to := devOf(1000, whole.All()[:n])
		mustRecast(t, written(step{two, []api.Row{values(number(6), text("y"))}}), to, ints, 9, 1, 0, api.OK)
		mustHold(t, to, "S 2 1 1 X", numbers(1, 2, 3, 6))
		to = devOf(1000, whole.All()[:n])
		mustRecast(t, newDev(0), to, ints, 9, 0, 0, api.OK)
		mustHold(t, to, "S 2 1 X", numbers(1, 2, 3))
	}
	to := devOf(1000, []byte("no frames at all"))
	mustRecast(t, whole, to, ints, 4, 5, 0, api.OK)
	mustHold(t, to, "S 4 1 X", numbers(1, 2, 3, 4, 5))
}

// plan is how long an empty file is behind each block of a recast, and behind its close.
func plan(t *testing.T, from *dev.Dev, s api.Schema, most int) []int {
	t.Helper()
	to := newDev(maxQuota)
	if _, e := doRecast(t, from, to, s, most); e != api.OK {
		t.Fatalf("a recast that is refused: %d", e)
	}
	var ends []int
	for _, one := range framesOf(to.All()) {
		if one.f.Kind != api.SchemaFrame {
			ends = append(ends, one.to)
		}
	}
	return ends
}

// TestSpace: P22.1: a quota of `to` that is too small at the first Append, at each later one: ErrNoSpace, the blocks ahead of it are taken, nothing more is read, the writer is not closed; one that is too small for the index alone: OK, none is written.
func TestSpace(t *testing.T) {
	from := single(ints, numbers(1, odd, odd, 2, 3, odd, 4, 5, odd, 6, 7, odd))
	// Blocks of two: 1 2, then 3 4, 5 6, 7; each is appended when the first row of the next one is told. Left are, ahead of these: two, three, four; and of all five.
	left := []int64{2, 3, 4, 5}
	taken := []int64{0, 2, 4, 6, 7}
	want := reals(1, 2, 3, 4, 5, 6, 7)
	shape := []string{"", "S 2", "S 2 2", "S 2 2 2", "S 2 2 2 1"}
	ends := plan(t, from, real, 2)
	if len(ends) != 5 {
		t.Fatalf("%d ends", len(ends))
	}
	for quota := range ends[4] + 2 {
		k := 0
		for k < 5 && quota >= ends[k] {
			k++
		}
		to := newDev(quota)
		if k < 4 {
			mustRecast(t, from, to, real, 2, taken[k], left[k], api.ErrNoSpace)
			mustHold(t, to, shape[k], want[:taken[k]])
			if to.Synced() != 0 {
				t.Fatalf("a quota of %d: the writer was closed", quota)
			}
			continue
		}
		mustRecast(t, from, to, real, 2, 7, 5, api.OK)
		if to.Synced() != to.Len() {
			t.Fatalf("a quota of %d: the writer was not closed", quota)
		}
		mustHold(t, to, shape[4]+map[bool]string{true: " X"}[k == 5], want)
	}
}

// TestReadNoMore: P22.1: behind an Append that is refused nothing more is read: what of `from` was read is what a reader reads up to the row that the block was appended for.
func TestReadNoMore(t *testing.T) {
	var l []int64
	for i := range 300 { // more than one Read tells
		l = append(l, int64(i))
	}
	from := single(ints, numbers(l...))
	ends := plan(t, from, ints, 7)
	for k := range len(ends) - 1 {
		d := from.Clone()
		mustRecast(t, d, newDev(ends[k]-1), ints, 7, int64(7*k), 0, api.ErrNoSpace)
		told := min(7*k+8, 300)
		twin := from.Clone()
		readOn(twin, ints, told, 7*k+7 >= 300)
		if d.Counted() != twin.Counted() || d.Counted() <= from.Counted() {
			t.Fatalf("block %d: %d bytes were read, want %d", k, d.Counted(), twin.Counted())
		}
	}
}

// TestPower: P22.1: power of `to` fails at each of its bytes, whatever is kept: ErrPower at the Append, or at Close; the counts are those of the Appends ahead of it.
func TestPower(t *testing.T) {
	from := single(ints, numbers(1, odd, 2, 3, 4, odd))
	ends := plan(t, from, real, 2) // 1 2, 3 4, and the index
	taken, left := []int64{0, 2, 4}, []int64{1, 2, 2}
	for after := range ends[2] + 1 {
		k := 0
		for k < 3 && after >= ends[k] {
			k++
		}
		for _, keep := range []int{0, 5, math.MaxInt} {
			to := newDev(1000)
			to.Fail(after, keep)
			if k == 3 {
				mustRecast(t, from, to, real, 2, 4, 2, api.OK)
				continue
			}
			mustRecast(t, from, to, real, 2, taken[k], left[k], api.ErrPower)
			if to.Up() || to.Len() != min(after, keep) {
				t.Fatalf("behind %d bytes, %d kept: up %v, %d bytes", after, keep, to.Up(), to.Len())
			}
			// What is left is opened again: the rows that were kept, then all of them.
			to.Start()
			was, _ := writer.Open(to.Clone(), real)
			n := was.Rows()
			mustRecast(t, from, to, real, 2, 4, 2, api.OK)
			got, e := asRead(to, real)
			want := append(reals(1, 2, 3, 4)[:n:n], reals(1, 2, 3, 4)...)
			if e != api.OK || rowsText(got) != rowsText(want) || n != 0 && n != 2 && n != 4 {
				t.Fatalf("behind %d bytes, %d kept: %d, %s", after, keep, e, brief(rowsText(got)))
			}
		}
	}
}

// TestPowerFrom: P22.1: power of `from` that is bound to fail is not asked for: reading is no deed.
func TestPowerFrom(t *testing.T) {
	from := written(shortScript()...)
	from.Fail(0, 0)
	mustRecast(t, from, newDev(1000), ints, 2, 12, 0, api.OK)
	if !from.Up() || from.Cut(from.Len()) != api.ErrPower {
		t.Fatalf("its power is not bound to fail any more")
	}
}

// TestReadingEnds: P22.1: reading that ends in an error: what was told ahead of it is appended, the last block too, and the writer is closed; then that is the error.
func TestReadingEnds(t *testing.T) {
	whole := single(ints, numbers(1, 2, odd, 4, 5))
	data := dataOf(whole)
	damaged := func(k, at int, v byte) *dev.Dev {
		d := whole.Clone()
		d.Damage(data[k].from+at, v)
		return d
	}
	for _, c := range []struct {
		from  *dev.Dev
		taken int
		left  int64
		shape string
		want  api.Errno
	}{
		{whole, 4, 1, "S 3 1 X", api.OK},
		{devOf(1000, whole.All()[:whole.Len()-1]), 3, 1, "S 3 X", api.ErrTorn},
		{devOf(1000, whole.All()[:data[3].from+1]), 2, 1, "S 2 X", api.ErrTorn},
		{devOf(1000, whole.All()[:3]), 0, 0, "X", api.ErrTorn},
		{devOf(1000, append(whole.All(), 7)), 4, 1, "S 3 1 X", api.ErrFence},
		{devOf(1000, append(whole.All(), 0, 0)), 4, 1, "S 3 1 X", api.ErrEmpty},
		{damaged(0, 0, 9), 0, 0, "X", api.ErrFence},
		{damaged(1, 0, 9), 1, 0, "S 1 X", api.ErrFence},
		{damaged(3, 0, 9), 2, 1, "S 2 X", api.ErrFence},
		{damaged(3, data[3].to-data[3].from-2, 77), 2, 1, "S 2 X", api.ErrSum},
		{takeDown(whole.Clone()), 0, 0, "X", api.ErrDown},
		{devOf(1000, append(whole.All(), whole.All()[data[4].from:]...)), 4, 1, "S 3 1 X", api.ErrOrder},
	} {
		to := newDev(1000)
		mustRecast(t, c.from, to, real, 3, int64(c.taken), c.left, c.want)
		mustHold(t, to, c.shape, reals(1, 2, 4, 5)[:c.taken])
		if to.Synced() != to.Len() {
			t.Fatalf("the writer was not closed")
		}
	}
}

// TestEachDamage: P22.1: `from` is overwritten at each of its bytes: what is told ahead of that is taken.
func TestEachDamage(t *testing.T) {
	whole := written(shortScript()...)
	want, _ := asRead(whole, two)
	for at := range whole.Len() {
		from := whole.Clone()
		from.Damage(at, from.All()[at]^0x55)
		n := 0
		for _, one := range dataOf(whole) {
			if one.to <= at {
				n += one.f.Rows
			}
		}
		to := newDev(1000)
		c, e := doRecast(t, from, to, two, 5)
		got, _ := asRead(to, two)
		if e == api.OK || c != (recast.Counts{Taken: int64(n)}) || rowsText(got) != rowsText(want[:n]) {
			t.Fatalf("byte %d: %+v, %d, want %d rows", at, c, e, n)
		}
	}
}

// TestTwoErrors: P22.1: which of two errors is told: the Append's ahead of the reading's, that ahead of Close's.
func TestTwoErrors(t *testing.T) {
	whole := single(ints, numbers(1, 2, odd, 4, 5))
	torn := devOf(1000, whole.All()[:whole.Len()-1]) // 1, 2, odd, 4
	for _, from := range []*dev.Dev{torn, takeDown(whole.Clone())} {
		why, read := api.ErrTorn, reals(1, 2, 4)
		left := int64(1)
		if !from.Up() {
			why, read, left = api.ErrDown, nil, 0
		}
		ends := plan(t, single(real, read), real, 64)
		blocks := ends[:len(ends)-1]
		// No space for the last block, which is appended when reading has ended.
		for _, n := range blocks {
			to := newDev(n - 1)
			mustRecast(t, from, to, real, 64, 0, left, api.ErrNoSpace)
			to = newDev(1000)
			to.Fail(n-1, 0)
			mustRecast(t, from, to, real, 64, 0, left, api.ErrPower)
		}
		// None for the index, and power that fails in it.
		last := 0
		if len(blocks) > 0 {
			last = blocks[0]
		}
		for n := last; n < ends[len(ends)-1]; n++ {
			to := newDev(n)
			mustRecast(t, from, to, real, 64, int64(len(read)), left, why)
			to = newDev(1000)
			to.Fail(n, 0)
			mustRecast(t, from, to, real, 64, int64(len(read)), left, why)
			if to.Up() || to.Len() != 0 {
				t.Fatalf("power did not fail")
			}
		}
		// A row that is too long, behind which reading ends in an error.
		l := single(texts, letters(1, 1000, 2))
		mustRecast(t, devOf(3000, l.All()[:l.Len()-1]), newDev(3000), padded, 64, 1, 0, api.ErrLong)
		// Power that fails in the index alone: Close's error.
		to := newDev(1000)
		to.Fail(ends[len(ends)-1]-1, 0)
		mustRecast(t, single(real, read), to, real, 64, int64(len(read)), 0, api.ErrPower)
	}
}

// TestLeftAhead: P22.1: rows that are left are told ahead of a refusal up to the row that the block was appended for: they are in no block, and one block's Append waits for the next row that is in one.
func TestLeftAhead(t *testing.T) {
	for _, c := range []struct {
		l    []int64
		most int
		left int64
	}{
		{[]int64{1, 2, odd, odd, 4, odd}, 2, 2}, {[]int64{1, 2, odd, odd}, 2, 2}, {[]int64{odd, 1, odd, 2, odd, odd, odd, 3, odd, 4}, 2, 5}, {[]int64{1, 2, 3, odd}, 2, 0}, {[]int64{1, odd, 2, odd}, 1, 1}, {[]int64{1, odd, 2, odd}, 64, 2},
	} {
		from := single(ints, numbers(c.l...))
		mustRecast(t, from, newDev(30), real, c.most, 0, c.left, api.ErrNoSpace)
	}
}

// TestSameFile: R1, R5: of one file, handed in as both, each row that is read is written behind it, and read again: the call ends where there is no space any more, always with the same answer.
func TestSameFile(t *testing.T) {
	for quota := 100; quota < 400; quota += 7 {
		for _, most := range []int{1, 2, 3, 64} {
			d := devOf(quota, written(step{ints, numbers(1, 2, 3)}).All())
			again := d.Clone()
			c, e := recast.Recast(d, d, ints, most)
			c2, e2 := recast.Recast(again, again, ints, most)
			if c != c2 || e != e2 || !bytes.Equal(d.All(), again.All()) {
				t.Fatalf("a quota of %d, by %d: %+v, %d and %+v, %d", quota, most, c, e, c2, e2)
			}
			// Blocks of fewer than three rows go on until there is no space; one that takes all three is appended when reading has ended, and the file is closed.
			if want := map[bool]api.Errno{true: api.ErrNoSpace}[most < 3]; e != want {
				t.Fatalf("a quota of %d, by %d: %d, want %d", quota, most, e, want)
			}
			got, why := asRead(d, ints)
			if why != api.OK || int64(len(got)) != 3+c.Taken || c.Left != 0 {
				t.Fatalf("a quota of %d, by %d: %d rows, %d, %+v", quota, most, len(got), why, c)
			}
			for k, one := range got {
				if one.Values[0].Int != int64(k%3)+1 {
					t.Fatalf("row %d is %d", k, one.Values[0].Int)
				}
			}
		}
	}
}
