package recast_test

import (
	"bytes"
	"slices"
	"testing"

	"gabion/api"
	"gabion/batch"
	"gabion/dev"
	"gabion/recast"
)

// mustFollow: P22.2: behind a recast that was OK `to` has the rows that it had, as they were, and behind them those of `from` that can be read under s; a recast of that into an empty file has the same rows, unless one that it had is too long under s, where that is refused (P22.1).
func mustFollow(t *testing.T, from, to *dev.Dev, s api.Schema, most int) {
	t.Helper()
	had, _ := asRead(to, s)
	raw := rawOf(to)
	want, _ := asRead(from, s)
	c, e := doRecast(t, from, to, s, most)
	if e != api.OK {
		t.Fatalf("it is refused: %d", e)
	}
	if all := rawOf(to); rowsText(all) != rowsText(slices.Concat(raw, want)) {
		t.Fatalf("%d rows as they were written, want %d and %d behind them", len(all), len(raw), len(want))
	}
	got, e := asRead(to, s)
	if e != api.OK || rowsText(got) != rowsText(slices.Concat(had, want)) || c.Taken != int64(len(want)) {
		t.Fatalf("%d rows, %d, want %d and %d behind them: %s", len(got), e, len(had), len(want), brief(rowsText(got)))
	}
	for _, r := range had {
		if _, e := batch.Size(s, []api.Row{r}); e != api.OK {
			if _, got := doRecast(t, to, newDev(maxQuota), s, most); got != e {
				t.Fatalf("a row that is too long: %d, want %d", got, e)
			}
			return
		}
	}
	first, second := newDev(maxQuota), newDev(maxQuota)
	mustTake(t, to, first, s, most, got)
	mustTake(t, first, second, s, most, got)
	if !bytes.Equal(first.All(), second.All()) {
		t.Fatalf("a recast of a recast has other bytes")
	}
}

// mustTake asks that a recast takes just these rows into an empty file; whatever else is left.
func mustTake(t *testing.T, from, to *dev.Dev, s api.Schema, most int, want []api.Row) {
	t.Helper()
	c, e := doRecast(t, from, to, s, most)
	got, _ := asRead(to, s)
	if e != api.OK || c.Taken != int64(len(want)) || rowsText(got) != rowsText(want) || rowsText(rawOf(to)) != rowsText(want) {
		t.Fatalf("into an empty file: %+v, %d, %d rows, want %d", c, e, len(got), len(want))
	}
}

// TestFollows: P22.2: files of one schema and of several, under many, into empty files and such as have rows already, closed and not.
func TestFollows(t *testing.T) {
	for _, from := range []*dev.Dev{newDev(0), written(shortScript()...), closed(written(shortScript()...)), closed(written(blocks()...)), single(ints, numbers(1, odd, 3, 4, odd, 6, 7, 8, 9, 10, odd))} {
		for _, s := range readers() {
			if _, e := recast.Recast(from.Clone(), newDev(maxQuota), s, 1); e == api.ErrLong {
				continue // a row of these is too long under s
			}
			for _, most := range []int{1, 2, 5, 64} {
				for _, to := range []*dev.Dev{newDev(maxQuota), written(step{ints, numbers(1, 2, 3)}), closed(written(step{ints, numbers(1, 2, 3)}, step{real, reals(4, 5.5)}))} {
					mustFollow(t, from, to, s, most)
				}
			}
		}
	}
}

// TestBehind: P22.1, P22.2: a `to` that has rows already, that was closed, of the same schema and of another one: told by its frames.
func TestBehind(t *testing.T) {
	from := written(step{ints, numbers(4, 5, 6)})
	had := written(step{ints, numbers(1, 2)}, step{ints, numbers(3)})
	to := had.Clone()
	mustRecast(t, from, to, ints, 2, 3, 0, api.OK)
	mustHold(t, to, "S 2 1 2 1 X", numbers(1, 2, 3, 4, 5, 6))
	to = closed(had.Clone())
	mustRecast(t, from, to, ints, 2, 3, 0, api.OK)
	mustHold(t, to, "S 2 1 X 2 1 X", numbers(1, 2, 3, 4, 5, 6))
	mustRecast(t, from, to, real, 2, 3, 0, api.OK)
	mustHold(t, to, "S 2 1 X 2 1 X S 2 1 X", append(numbers(1, 2, 3, 4, 5, 6), reals(4, 5, 6)...))
	mustRecast(t, from, to, real, 64, 3, 0, api.OK)
	mustHold(t, to, "S 2 1 X 2 1 X S 2 1 X 3 X", slices.Concat(numbers(1, 2, 3, 4, 5, 6), reals(4, 5, 6, 4, 5, 6)))
	mustRecast(t, newDev(0), to, texts, 64, 0, 0, api.OK)
	mustHold(t, to, "S 2 1 X 2 1 X S 2 1 X 3 X", slices.Concat(numbers(1, 2, 3, 4, 5, 6), reals(4, 5, 6, 4, 5, 6)))
	// A schema frame is due again.
	many := single(ints, numbers(upTo(7)...))
	mustRecast(t, from, many, ints, 1, 3, 0, api.OK)
	mustHold(t, many, "S 1 1 1 1 1 1 1 1 S 1 1 X", append(numbers(upTo(7)...), numbers(4, 5, 6)...))
	// And of what came of it, into an empty file: by the same rows, whatever its blocks were.
	again := newDev(maxQuota)
	mustRecast(t, to, again, ints, 5, 12, 0, api.OK)
	mustHold(t, again, "S 5 5 2 X", numbers(1, 2, 3, 4, 5, 6, 4, 5, 6, 4, 5, 6))
}

// TestMany: P22.1, P22.2: more data frames than one index tells.
func TestMany(t *testing.T) {
	var l []int64
	for i := range 700 {
		l = append(l, int64(i))
	}
	to := newDev(maxQuota)
	mustFollow(t, single(ints, numbers(l...)), to, real, 2)
	if n := len(dataOf(to)); n != 350 {
		t.Fatalf("%d data frames", n)
	}
}
