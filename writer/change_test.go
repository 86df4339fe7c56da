package writer_test

import (
	"testing"

	"gabion/api"
)

// TestChange: P19.3, P19.5: to another one, back again, to the same one; the next append tells the last one alone.
func TestChange(t *testing.T) {
	p := empty(t, ints)
	p.Change(two, api.OK)
	p.mustStand("", 0, 0, 0) // the file has none
	p.Change(ints, api.OK)
	p.Change(ints, api.OK)
	p.Append(numbers(1), api.OK)
	p.mustStand("SD", 1, 1, 0)
	for _, s := range []api.Schema{two, texts, nested, two} {
		p.Change(s, api.OK)
		p.mustStand("SD", 1, 1, 1)
	}
	p.Append(numbers(1), api.ErrType)
	p.Change(ints, api.OK)
	p.mustStand("SD", 1, 1, 0)
	p.Append(numbers(2), api.OK)
	p.mustStand("SDD", 2, 2, 0)
	p.Change(two, api.OK)
	p.Append([]api.Row{values(number(3), text(""))}, api.OK)
	p.mustStand("SDDSD", 3, 3, 1)
	p.Change(ints, api.OK) // no longer the last one
	p.mustStand("SDDSD", 3, 3, 2)
	p.Change(two, api.OK)
	p.mustStand("SDDSD", 3, 3, 1)
	p.Change(ints, api.OK)
	p.Append(numbers(4), api.OK)
	p.mustStand("SDDSDSD", 4, 4, 2)
	p.mustRead()
}

// TestChangeMany: P19.3: a schema more ahead of each append.
func TestChangeMany(t *testing.T) {
	p := empty(t, ints)
	for i := range int64(60) {
		s := []api.Schema{ints, two, floats}[i%3]
		p.Change(s, api.OK)
		p.Append([]api.Row{someRow(s), someRow(s)}, api.OK)
		if p.w.Number() != i {
			t.Fatalf("%d: %d", i, p.w.Number())
		}
	}
	p.mustRead()
}

// TestChangeRefused: P19.3, R2: schema.Check's error; the schema is the one ahead of it.
func TestChangeRefused(t *testing.T) {
	p := empty(t, ints)
	for i, one := range refusedSchemas() {
		p.Change(one.s, one.want)
		p.Append(numbers(int64(i)), api.OK)
		p.Change(two, api.OK)
		p.Change(one.s, one.want)
		if p.w.Number() != 1 {
			t.Fatalf("Number %d", p.w.Number())
		}
		p.Change(ints, api.OK)
	}
	p.Close(true, api.OK)
	for _, one := range refusedSchemas() {
		p.Change(one.s, api.ErrState)
	}
}

// TestChangeShut: P19.3: a writer that is not open takes no schema: its Number stays.
func TestChangeShut(t *testing.T) {
	p := empty(t, ints)
	p.Append(numbers(1), api.OK)
	p.Change(two, api.OK)
	p.Close(true, api.OK)
	p.Change(ints, api.ErrState)
	p.mustStand("SDX", 1, 1, 1)
}

// TestChangeDown: P19.3: it asks nothing of the file: also where that is down, or power is bound to fail.
func TestChangeDown(t *testing.T) {
	p := empty(t, ints)
	p.Append(numbers(1), api.OK)
	p.fail(0, 0)
	p.Change(two, api.OK)
	p.Change(wide(17), api.ErrMany)
	p.down()
	p.Change(ints, api.OK)
	p.Change(two, api.OK)
	p.mustStand("SD", 1, 1, 1)
}

// TestSync: P19.3: all that there is is synced, whoever wrote it; it is no deed, nothing is written.
func TestSync(t *testing.T) {
	p := empty(t, ints)
	p.Sync(api.OK)
	for _, one := range script() {
		p.do(one)
		if p.d.Synced() == p.d.Len() {
			t.Fatalf("an Append synced the file")
		}
		before, written := p.d.Len(), p.d.Written()
		p.Sync(api.OK)
		if p.d.Synced() != before || p.d.Len() != before || p.d.Written() != written {
			t.Fatalf("%d of %d synced, %d deeds", p.d.Synced(), p.d.Len(), p.d.Written()-written)
		}
	}
	p.fail(0, 0)
	p.Sync(api.OK)
	p.Append([]api.Row{values(number(1), text(""))}, api.ErrPower)
	p.Sync(api.ErrState)
}

// TestSyncDown: P19.3: of a file that is down ErrDown: it is not open any more, also behind Start.
func TestSyncDown(t *testing.T) {
	p := empty(t, ints)
	p.Append(numbers(1, 2), api.OK)
	p.down()
	p.Sync(api.ErrDown)
	p.mustBeShut()
	p.start()
	p.mustBeShut()
	p.mustStand("SD", 1, 2, 0)
}

// TestSyncShut: P19.3: ErrState, and nothing is synced.
func TestSyncShut(t *testing.T) {
	p := empty(t, ints)
	p.Append(numbers(1), api.OK)
	p.fail(2, 1)
	p.Append(numbers(1), api.ErrPower)
	p.start()
	p.Sync(api.ErrState)
	if p.d.Synced() != 0 {
		t.Fatalf("%d bytes are synced", p.d.Synced())
	}
}

// TestNeed: P19.3: of each append of a script how many bytes that writes, with and without a schema frame that is due; it changes nothing, however often it is asked, of whatever.
func TestNeed(t *testing.T) {
	p, q := empty(t, ints), empty(t, ints)
	with, without := 0, 0
	for _, one := range script() {
		p.turn(one.s)
		for _, other := range script() {
			p.need1(other.l)
		}
		need, was, frames := p.Need(one.l, api.OK), p.d.Len(), len(p.all)
		p.Append(one.l, api.OK)
		if p.d.Len()-was != need {
			t.Fatalf("%d bytes, needed %d", p.d.Len()-was, need)
		}
		if len(p.all)-frames == 2 {
			with++
		} else {
			without++
		}
		q.do(one)
		if state(p.d) != state(q.d) {
			t.Fatalf("Need changed what comes behind it")
		}
	}
	if with < 10 || without < 10 {
		t.Fatalf("%d with a schema frame, %d without", with, without)
	}
}

// TestNeedByHand: P19.3: a schema frame and a data frame, told by hand; the data frame alone.
func TestNeedByHand(t *testing.T) {
	s, d := len(fencedOf("\x01\x00\x01\x01a\x02\x00")), len(fencedOf("\x02\x00\x00\x00\x02\x00\x02\x04"))
	p := empty(t, ints)
	if n := p.Need(numbers(1, 2), api.OK); n != s+d {
		t.Fatalf("%d, want %d", n, s+d)
	}
	for i := range int64(8) {
		p.Append(numbers(i, i), api.OK)
		want := d
		if i == 7 {
			want += s
		}
		if n := p.Need(numbers(1, 2), api.OK); n != want {
			t.Fatalf("behind %d appends: %d, want %d", i+1, n, want)
		}
	}
}

// TestNeedRefused: P19.3: batch.Pack's errors, and no bytes; it stays open.
func TestNeedRefused(t *testing.T) {
	for _, one := range allRefusedRows() {
		p := empty(t, one.s)
		if n := p.Need(one.l, one.want); n != 0 {
			t.Fatalf("%d bytes", n)
		}
		p.Append([]api.Row{someRow(one.s)}, api.OK)
		p.Need(one.l, one.want)
		p.Close(true, api.OK)
		p.Need(one.l, api.ErrState)
	}
}

// TestNeedAnywhere: P19.3: it asks nothing of the file: how much space there is, whether it is down, whether power is bound to fail.
func TestNeedAnywhere(t *testing.T) {
	want := empty(t, ints).Need(numbers(1), api.OK)
	for _, quota := range []int{0, 1, want - 1, want} {
		p := begin(t, deviceOf(quota, nil), ints)
		p.fail(0, 0)
		if n := p.Need(numbers(1), api.OK); n != want {
			t.Fatalf("%d, want %d", n, want)
		}
		p.down()
		if n := p.Need(numbers(1), api.OK); n != want {
			t.Fatalf("down: %d, want %d", n, want)
		}
		p.Sync(api.ErrDown)
		p.Need(numbers(1), api.ErrState)
	}
}
