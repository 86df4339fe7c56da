package repair_test

import (
	"slices"
	"testing"

	"gabion/api"
	"gabion/repair"
	"gabion/scan"
)

// unlike is a file with schemas of each depth, many entries and indexes; it ends in schema frames.
func unlike() *laid {
	l := &laid{}
	for i, s := range []api.Schema{ints, floats, nested, pairs} {
		l.schema(int64(i), s)
		for range 7 {
			l.data(3, "\x00\x02")
		}
		l.index()
		l.schema(int64(i), s)
	}
	return l
}

func spoilValues(l []api.Value) {
	for _, v := range l {
		spoilValues(v.Items)
	}
	clear(l[:cap(l)])
}

func spoilTypes(l []api.Type) {
	for _, t := range l {
		spoilTypes(t.Of)
	}
	clear(l[:cap(l)])
}

// spoil writes into all lists that a walk tells, and into the room behind them.
func spoil(w *scan.Walk) {
	for n := range w.Number() + 1 {
		s, _ := w.Schema(n)
		for _, c := range s.Columns {
			spoilTypes(c.Type.Of)
			spoilValues(c.Default.Items)
		}
		clear(s.Columns[:cap(s.Columns)])
	}
	entries := w.Entries()
	clear(entries[:cap(entries)])
}

// TestWalkIsTheCallers: R4, R5: the walk that Look tells is the caller's own: what it takes, and who writes over what it tells, changes nothing of the file, nor of another Look's walk.
func TestWalkIsTheCallers(t *testing.T) {
	for _, l := range []*laid{unlike(), longFile(9), {}} {
		for _, tail := range [][]byte{nil, row(5, 9), encoded(schemaFrame(l.Number()+1, texts))} {
			d := device(join(l.b, tail))
			kept, want, _ := asLook(t, d)
			_, first, _ := repair.Look(d)
			_, second, _ := repair.Look(d)
			before := state(d)
			spoil(first)
			mustStand(t, first, want)
			number := first.Number() + 1
			if first.Next(schemaFrame(number, longSchema(300)), kept) != api.OK || first.Next(dataFrame(number, first.Frames(), first.Rows(), 9, ""), kept+400) != api.OK {
				t.Fatalf("the walk does not go on")
			}
			spoil(first)
			mustStand(t, second, want)
			if state(d) != before {
				t.Fatalf("the file was changed")
			}
			asLook(t, d)
		}
	}
}

// TestWalkStays: R5: what is done to the file later changes nothing of a walk that was told.
func TestWalkStays(t *testing.T) {
	l := unlike()
	d := device(join(l.b, row(5, 9)))
	_, want, _ := asLook(t, d)
	_, w, _ := repair.Look(d)
	for _, change := range []func(){
		func() { repair.Do(d) },
		func() { d.Write(encoded(l.firstOf(l.keptOf(len(l.all))).ownData(5, "xyz"))) },
		func() { d.Damage(3, 200) },
		func() { d.Cut(20) },
		func() { d.Tail(l.b) },
		func() { takeDown(d) },
	} {
		before := state(d)
		change()
		if state(d) == before {
			t.Fatalf("nothing was done")
		}
		mustStand(t, w, want)
	}
}

// TestClonesStay: R5: what Do does to a file is not done to its clone, nor the other way round.
func TestClonesStay(t *testing.T) {
	l := unlike()
	for _, tail := range [][]byte{nil, row(5, 9), encoded(dataFrame(9, 9, 9, 9, ""))} {
		d := device(join(l.b, tail))
		c := d.Clone()
		before := state(d)
		_, e := asDo(t, c)
		if state(d) != before || (state(c) == before) != (e == api.ErrDamaged) {
			t.Fatalf("of the clone's Do: the file is the same: %v, the clone: %v", state(d) == before, state(c) == before)
		}
		before = state(c)
		asDo(t, d)
		if state(c) != before {
			t.Fatalf("the file's Do changed the clone")
		}
	}
}

// TestOneAnswer: R5: the same bytes, the same answers, however they came there, and whatever was read ahead of it.
func TestOneAnswer(t *testing.T) {
	l := unlike()
	all := join(l.b, row(5, 9))
	d := device(nil)
	for piece := range slices.Chunk(all, 7) {
		d.Write(piece)
		d.Read(0, d.Len())
		asLook(t, d)
	}
	kept, w, e := repair.Look(d)
	other, v, f := repair.Look(device(all))
	if kept != other || e != f || standing(w) != standing(v) {
		t.Fatalf("%d, %d, and %d, %d", kept, e, other, f)
	}
}
