package recast_test

import (
	"bytes"
	"math"
	"slices"
	"strconv"
	"strings"
	"testing"

	"gabion/api"
	"gabion/dev"
)

// shapes are the frames of an empty file behind blocks of so many rows, and a close.
func shapes(sizes ...int) string {
	var l []string
	for k, n := range sizes {
		if k%8 == 0 {
			l = append(l, "S")
		}
		l = append(l, strconv.Itoa(n))
	}
	return strings.Join(append(l, "X"), " ")
}

// TestBlocks: P22.1: blocks have just `rows` rows, the last one may have fewer, whatever the blocks of the other file were: of 1 to 64 rows a block, and of so many rows that the last block is one short of full, full, one beyond.
func TestBlocks(t *testing.T) {
	for _, most := range []int{1, 2, 3, 5, 31, 63, 64} {
		for _, n := range []int{0, 1, most - 1, most, most + 1, 2*most - 1, 2 * most, 2*most + 1, 7*most + 1, 100} {
			l := numbers(upTo(n)...)
			var sizes []int
			for left := n; left > 0; left -= most {
				sizes = append(sizes, min(left, most))
			}
			var steps []step
			for k := 0; k < n; k += 10 {
				steps = append(steps, step{ints, l[k:min(k+10, n)]})
			}
			for _, from := range []*dev.Dev{single(ints, l), written(steps...)} {
				to := newDev(maxQuota)
				mustRecast(t, from, to, ints, most, int64(n), 0, api.OK)
				mustHold(t, to, shapes(sizes...), l)
				if to.Synced() != to.Len() || !to.Up() {
					t.Fatalf("%d of %d bytes are synced", to.Synced(), to.Len())
				}
			}
		}
	}
}

// TestRows: P22.1: ErrArg, if rows is not 1 to 64; ahead of what is wrong with `to` and with the schema: nothing is read, nothing repaired.
func TestRows(t *testing.T) {
	from := written(shortScript()...)
	torn := devOf(1000, from.All()[:from.Len()-1])
	damaged := from.Clone()
	damaged.Damage(dataOf(from)[1].from+3, 200)
	bad := []int{0, 65, -1, -64, 66, 128, 1000, 1 << 32, 1<<32 + 1, math.MaxInt, math.MinInt, math.MinInt + 1}
	for _, to := range []*dev.Dev{newDev(1000), torn, damaged, takeDown(torn.Clone()), newDev(0)} {
		for _, s := range []api.Schema{real, {}, wide(17)} {
			for _, n := range bad {
				before, read := state(to), from.Counted()
				mustRecast(t, from, to, s, n, 0, 0, api.ErrArg)
				if state(to) != before || from.Counted() != read {
					t.Fatalf("by %d: something was read or written", n)
				}
			}
		}
	}
	for _, n := range []int{1, 2, 63, 64} {
		mustRecast(t, from, newDev(1000), real, n, 11, 1, api.OK)
	}
}

// TestSize: P22.1: a block has no more rows than batch.Size takes: 2048 bytes together; rows as long as a row may be, two a block; just as many as go in, and one byte more.
func TestSize(t *testing.T) {
	// A row of a text of n letters has n + 1 bytes, n + 2 from 128 letters on.
	for _, c := range []struct {
		l     []int
		most  int
		sizes []int
	}{
		{[]int{1022, 1022, 1022, 1022, 1022}, 64, []int{2, 2, 1}},
		{[]int{1022, 1022, 0}, 64, []int{2, 1}},
		{[]int{1022, 1021, 0}, 64, []int{3}},
		{[]int{1022, 1021, 0, 0}, 64, []int{3, 1}},
		{[]int{1022, 1020, 0, 0}, 64, []int{4}},
		{[]int{1022, 1020, 0, 0}, 3, []int{3, 1}},
		{[]int{1022, 1020, 1, 0, 0}, 64, []int{3, 2}},
		{[]int{1022, 1019, 1, 0, 0}, 64, []int{4, 1}},
		{[]int{0, 1022, 1022, 0, 1022, 1022}, 64, []int{2, 2, 2}},
		{[]int{0, 1022, 1021, 0, 1022, 1021}, 64, []int{3, 3}},
		{[]int{510, 510, 510, 510, 510}, 64, []int{4, 1}},
		{[]int{510, 510, 510, 511, 510}, 64, []int{3, 2}},
		{[]int{510, 510, 510, 510, 510}, 4, []int{4, 1}},
		{[]int{510, 510, 510, 510, 510}, 3, []int{3, 2}},
		{slices.Repeat([]int{31}, 130), 64, []int{64, 64, 2}},
		{append(slices.Repeat([]int{31}, 63), 32, 31, 31), 64, []int{63, 3}},
		{append([]int{32}, slices.Repeat([]int{31}, 65)...), 64, []int{63, 3}},
		{slices.Repeat([]int{1000}, 20), 1, slices.Repeat([]int{1}, 20)},
	} {
		l := letters(c.l...)
		to := newDev(maxQuota)
		mustRecast(t, single(texts, l), to, texts, c.most, int64(len(l)), 0, api.OK)
		mustHold(t, to, shapes(c.sizes...), l)
	}
}

// TestLong: P22.1: a row that batch.Size doesn't take by itself, as it has more than 1024 bytes under s, is a block of its own: the block ahead of it is appended, its own Append is refused, when the next row that is not left has been told; nothing more is read, the writer is not closed.
func TestLong(t *testing.T) {
	const fits, long = 918, 919 // under padded 1024, 1025 bytes
	for _, c := range []struct {
		l     []int
		most  int
		taken int
		shape string
	}{
		{[]int{fits, fits, 1}, 64, 3, "S 2 1 X"},
		{[]int{long}, 64, 0, ""},
		{[]int{long, 1}, 64, 0, ""},
		{[]int{long, long, 1, 1}, 64, 0, ""},
		{[]int{1, long}, 64, 1, "S 1"},
		{[]int{1, long}, 1, 1, "S 1"},
		{[]int{1, 1, long, 1, 1, 1}, 64, 2, "S 2"},
		{[]int{1, 1, 1, long, 1, 1}, 2, 3, "S 2 1"},
		{[]int{1, 1, long, 1, 1, 1}, 2, 2, "S 2"},
		{[]int{fits, fits, 1, long, long, 1}, 64, 3, "S 2 1"},
		{[]int{1, 1, 1, 1, 1, 1022}, 2, 5, "S 2 2 1"},
	} {
		l := letters(c.l...)
		want := api.OK
		if c.taken < len(l) {
			want = api.ErrLong
		}
		from, to := single(texts, l), newDev(maxQuota)
		read := from.Counted()
		mustRecast(t, from, to, padded, c.most, int64(c.taken), 0, want)
		var full []api.Row
		for _, n := range c.l[:c.taken] {
			full = append(full, values(text(strings.Repeat("x", n)), padded.Columns[1].Default))
		}
		mustHold(t, to, c.shape, full)
		// At each data frame a Read tells what is left of the file, and no more than MaxFrame + 2 bytes.
		told := min(c.taken+2, len(l))
		places := []int{0}
		for _, one := range dataOf(from)[:told] {
			places = append(places, one.from)
			if one.f.Seq%8 == 7 {
				places = append(places, one.to)
			}
		}
		bytesRead := 0
		for _, at := range places {
			bytesRead += min(from.Len()-at, 2202)
		}
		if from.Counted()-read != bytesRead {
			t.Fatalf("%v by %d: %d bytes were read, want %d", c.l, c.most, from.Counted()-read, bytesRead)
		}
		if want != api.OK && to.Synced() != 0 {
			t.Fatalf("%v by %d: the writer was closed", c.l, c.most)
		}
	}
}

// TestLeft: P22.1: rows whose E is not OK are left, at the beginning, in the midst, at the end, all of them; blocks go on beyond them.
func TestLeft(t *testing.T) {
	for _, c := range []struct {
		l     []int64
		most  int
		sizes []int
	}{
		{[]int64{odd, 1, 2, 3}, 2, []int{2, 1}},
		{[]int64{odd, odd, odd, 1}, 2, []int{1}},
		{[]int64{1, odd, 2, 3, odd, 4}, 2, []int{2, 2}},
		{[]int64{1, odd, 2, odd, 3, odd, 4, 5}, 4, []int{4, 1}},
		{[]int64{1, 2, odd}, 2, []int{2}},
		{[]int64{1, 2, 3, odd, odd}, 2, []int{2, 1}},
		{[]int64{odd}, 2, nil},
		{[]int64{odd, odd + 2, -odd, math.MaxInt64, odd}, 64, nil},
		{[]int64{odd, 1, odd, odd, 2, odd}, 1, []int{1, 1}},
		{[]int64{odd, 1, odd, odd, 2, odd}, 64, []int{2}},
	} {
		var want []float64
		for _, n := range c.l {
			if int64(float64(n)) == n && n < 1<<53 {
				want = append(want, float64(n))
			}
		}
		left := int64(len(c.l) - len(want))
		for _, from := range []*dev.Dev{single(ints, numbers(c.l...)), written(step{ints, numbers(c.l...)})} {
			to := newDev(maxQuota)
			mustRecast(t, from, to, real, c.most, int64(len(want)), left, api.OK)
			mustHold(t, to, shapes(c.sizes...), reals(want...))
		}
	}
}

// TestLeftCauses: P22.1: whatever the error is: of a row, or of a schema that can't be read under s.
func TestLeftCauses(t *testing.T) {
	from := written(
		step{ints, numbers(1, odd)}, step{texts, rows(text("5"))}, step{of(plain("z", ofInt)), numbers(4)}, step{of(plain("a", optOf(ofInt))), rows(opt(), opt(number(6)))},
		step{real, reals(7, 0.5, math.Inf(-1))}, step{two, []api.Row{values(number(8), text(""))}}, step{of(plain("a", ofBool)), rows(boolean(1))}, step{of(plain("a", listOf(ofInt))), rows(list())},
	)
	to := newDev(maxQuota)
	mustRecast(t, from, to, ints, 3, 6, 6, api.OK) // left are 5, 4, none, 0.5, infinity, the list
	mustHold(t, to, "S 3 3 X", numbers(1, odd, 6, 7, 8, 1))
	to = newDev(maxQuota)
	mustRecast(t, from, to, real, 64, 6, 6, api.OK) // left are odd, 5, 4, none, true, the list
	mustHold(t, to, "S 6 X", reals(1, 6, 7, 0.5, math.Inf(-1), 8))
	to = newDev(maxQuota)
	mustRecast(t, from, to, of(with("b", ofText, text("?"))), 64, 12, 0, api.OK)
	var want []api.Row
	for k := range 12 {
		want = append(want, values(text("?")))
		if k == 9 {
			want[k] = values(text(""))
		}
	}
	mustHold(t, to, "S 12 X", want)
}

// TestNoRow: P22.1: of a file without a row nothing is appended; the writer is closed, which writes an index.
func TestNoRow(t *testing.T) {
	onlySchema := written(step{ints, numbers(1)})
	onlySchema.Cut(dataOf(onlySchema)[0].from)
	for _, from := range []*dev.Dev{newDev(0), newDev(100), closed(newDev(100)), onlySchema} {
		to := newDev(1000)
		mustRecast(t, from, to, ints, 5, 0, 0, api.OK)
		if want := closed(newDev(1000)).All(); !bytes.Equal(to.All(), want) || to.Synced() != len(want) {
			t.Fatalf("%x, want %x", to.All(), want)
		}
		mustRecast(t, from, to, ints, 5, 0, 0, api.OK)
		mustHold(t, to, "X", nil)
		mustRecast(t, from, newDev(0), ints, 5, 0, 0, api.OK)
	}
}

// TestSeveral: P22.1: rows of several schemas stand in one block, all under s.
func TestSeveral(t *testing.T) {
	from, to := written(shortScript()...), newDev(maxQuota)
	mustRecast(t, from, to, two, 5, 12, 0, api.OK)
	want := []api.Row{
		values(number(1), text("x")), values(number(2), text("x")), values(number(3), text("x")), values(number(4), text("four")), values(number(5), text("")), values(number(6), text("\x00")),
		values(number(7), text("x")), values(number(8), text("x")), values(number(odd), text("x")), values(number(10), text("x")), values(number(11), text("x")), values(number(12), text("x")),
	}
	mustHold(t, to, "S 5 5 2 X", want)
	to = newDev(maxQuota)
	mustRecast(t, closed(from), to, two, 5, 12, 0, api.OK)
	mustHold(t, to, "S 5 5 2 X", want)
}

// TestAll: P22.1: all files of tests, under many schemas, by some numbers of rows, into files of each kind.
func TestAll(t *testing.T) {
	answers := map[api.Errno]int{}
	for _, from := range files() {
		for _, s := range readers() {
			for _, most := range []int{1, 3, 64} {
				for _, to := range []*dev.Dev{newDev(maxQuota), newDev(300), written(shortScript()...), closed(written(shortScript()...))} {
					_, e := doRecast(t, from, to, s, most)
					answers[e]++
				}
			}
		}
	}
	for _, e := range []api.Errno{api.OK, api.ErrNoSpace, api.ErrLong, api.ErrTorn, api.ErrSum, api.ErrDown, api.ErrFence} {
		if answers[e] < 20 {
			t.Fatalf("too few ended with %d: %v", e, answers)
		}
	}
}
