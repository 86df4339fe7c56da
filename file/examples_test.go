package file_test

import (
	"bytes"
	"math"
	"strings"
	"testing"

	"gabion/api"
)

// TestExamples: the chapter's examples.
func TestExamples(t *testing.T) {
	f := newFile(1000)
	must(t, "Append", f.Append(numbers(1)), api.ErrState)
	must(t, "Open", f.Open(ints), api.OK)
	must(t, "Open", f.Open(ints), api.ErrState)
	must(t, "Append", f.Append(numbers(1)), api.OK)
	must(t, "Append", f.Append(numbers(2)), api.OK)
	must(t, "Sync", f.Sync(), api.OK)
	must(t, "Fail", f.Fail(3, 0), api.OK)
	must(t, "Append", f.Append(numbers(3)), api.ErrPower)
	if f.Opened() {
		t.Fatalf("it is open")
	}
	l, e := f.Rows()
	mustTell(t, "Rows", l, e, nil, api.ErrDown)
	must(t, "Start", f.Start(), api.OK)
	l, e = f.Rows()
	mustTell(t, "Rows", l, e, told(0, 0, numbers(1, 2)...), api.OK)
	must(t, "Open", f.Open(ints), api.OK)
	must(t, "Append", f.Append(numbers(3)), api.OK)
	mustClose(t, f, true)
	l, e = f.From(2)
	mustTell(t, "From", l, e, told(2, 0, numbers(3)...), api.OK)
	must(t, "Damage", f.Damage(0, 9), api.OK)
	l, e = f.Rows()
	mustTell(t, "Rows", l, e, nil, api.ErrFence)
	if got := f.Salvage(); len(got) != 0 {
		t.Fatalf("Salvage: %s", batchText(got...))
	}
}

// TestExampleOne: DOC.md's first example: which frames two rows, and a Close, make.
func TestExampleOne(t *testing.T) {
	f := written(t, step{ints, numbers(1, 2)})
	l := framesOf(f.Bytes())
	if len(l) != 2 || l[0].f.Kind != 1 || l[0].f.Number != 0 || schemaText(l[0].f.Schema) != schemaText(ints) {
		t.Fatalf("%d frames, or another schema frame", len(l))
	}
	if d := l[1].f; d.Kind != 2 || d.Number != 0 || d.Seq != 0 || d.First != 0 || d.Rows != 2 {
		t.Fatalf("another data frame: %+v", d)
	}
	x := lastOf(closed(t, f).Bytes())
	if x.f.Kind != 3 || len(x.f.Index.Entries) != 1 || x.f.Index.Frames != 1 || x.f.Index.Rows != 2 || x.f.Index.Entries[0] != entry(int64(l[1].from), 0, 0) {
		t.Fatalf("another index: %+v", x.f)
	}
}

// TestExamplesUnder: DOC.md's examples two to four: a file reopened under another schema, and read under others.
func TestExamplesUnder(t *testing.T) {
	f := closed(t, written(t, step{ints, numbers(1, 2)}))
	must(t, "Open", f.Open(two), api.OK)
	must(t, "Append", f.Append([]api.Row{values(number(3), text("y"))}), api.OK)
	if got := kindsOf(f.Bytes()); got != "SDXSD" {
		t.Fatalf("frames: %s", got)
	}
	l, e := f.As(two, nil)
	mustTell(t, "As", l, e, append(told(0, 0, values(number(1), text("x")), values(number(2), text("x"))), told(2, 1, values(number(3), text("y")))...), api.OK)

	f = written(t, step{ints, numbers(1, 2, 1<<53+1)})
	l, e = f.As(of(plain("a", ofFloat)), nil)
	mustTell(t, "As", l, e, append(told(0, 0, rows(float(1), float(2))...), api.Told{At: 2, E: api.ErrLossy}), api.OK)
	l, e = f.As(of(plain("a", optOf(ofInt))), nil)
	mustTell(t, "As", l, e, told(0, 0, rows(opt(number(1)), opt(number(2)), opt(number(1<<53+1)))...), api.OK)
	l, e = f.As(of(plain("c", ofInt)), nil)
	mustTell(t, "As", l, e, []api.Told{{At: 0, E: api.ErrMissing}, {At: 1, E: api.ErrMissing}, {At: 2, E: api.ErrMissing}}, api.OK)
}

// TestExampleFive: DOC.md's fifth example: power fails within the ninth byte of a data frame.
func TestExampleFive(t *testing.T) {
	f := written(t, step{ints, numbers(1, 2)}, step{ints, numbers(3)})
	kept := f.Bytes()
	must(t, "Fail", f.Fail(8, math.MaxInt), api.OK)
	must(t, "Append", f.Append(numbers(4)), api.ErrPower)
	if len(f.Bytes()) != len(kept)+8 {
		t.Fatalf("%d bytes", len(f.Bytes()))
	}
	must(t, "Start", f.Start(), api.OK)
	must(t, "Open", f.Open(ints), api.OK)
	if !bytes.Equal(f.Bytes(), kept) {
		t.Fatalf("%d bytes, want %d", len(f.Bytes()), len(kept))
	}
	must(t, "Append", f.Append(numbers(5)), api.OK)
	if d := lastOf(f.Bytes()).f; d.Seq != 2 || d.First != 3 {
		t.Fatalf("Seq %d, First %d", d.Seq, d.First)
	}
}

// TestExamplesDamaged: DOC.md's examples six to eight: a data frame, a schema frame, the index overwritten.
func TestExamplesDamaged(t *testing.T) {
	var steps []step
	for i := range int64(10) {
		steps = append(steps, step{ints, numbers(i)})
	}
	whole := closed(t, written(t, steps...))
	frames := framesOf(whole.Bytes())
	if got := kindsOf(whole.Bytes()); got != "SDDDDDDDDSDDX" {
		t.Fatalf("frames: %s", got)
	}
	all, _ := whole.Rows()

	f := whole.Clone()
	must(t, "Damage", f.Damage(frames[4].from+3, 99), api.OK)
	if l, e := f.Rows(); toldText(l...) != toldText(all[:3]...) || e == api.OK {
		t.Fatalf("Rows: %s, %d", toldText(l...), e)
	}
	if got := f.Salvage(); len(got) != 9 || got[2].Seq != 2 || got[3].Seq != 4 {
		t.Fatalf("Salvage: %s", batchText(got...))
	}

	f = whole.Clone()
	must(t, "Damage", f.Damage(3, 99), api.OK)
	if l, e := f.Rows(); len(l) != 0 || e == api.OK {
		t.Fatalf("Rows: %s, %d", toldText(l...), e)
	}
	if got := f.Salvage(); batchText(got...) != batchText(whole.Salvage()...) || len(got) != 10 {
		t.Fatalf("Salvage: %s", batchText(got...))
	}

	f = whole.Clone()
	x := frames[len(frames)-1]
	for at, v := range mixedBytes(5, x.to-x.from, 6) {
		must(t, "Damage", f.Damage(x.from+at, v), api.OK)
	}
	l, e := f.From(5)
	mustTell(t, "From", l, e, all[5:], second(f.Rows()))
}

// TestExamplesRefused: DOC.md's ninth example: refused appends leave the bytes as they were.
func TestExamplesRefused(t *testing.T) {
	f := newFile(len(written(t, step{ints, numbers(1)}).Bytes()) + 20)
	must(t, "Open", f.Open(ints), api.OK)
	must(t, "Append", f.Append(numbers(1)), api.OK)
	whole := f.Bytes()
	must(t, "Append", f.Append(numbers(make([]int64, 65)...)), api.ErrMany)
	must(t, "Append", f.Append(numbers(1<<60, 1<<61, 1<<62, 5<<50)), api.ErrNoSpace)
	must(t, "Change", f.Change(texts), api.OK)
	must(t, "Append", f.Append(rows(text(strings.Repeat("x", 1025)))), api.ErrLong)
	if !bytes.Equal(f.Bytes(), whole) || !f.Opened() {
		t.Fatalf("the bytes are others, or it is not open")
	}
}

// TestExampleTen: DOC.md's tenth example: -0 is read as -0, any NaN as the one.
func TestExampleTen(t *testing.T) {
	f := written(t, step{of(plain("a", ofFloat)), rows(bits(1<<63), bits(0xfff8000000000001), bits(0x7ff0000000000001))})
	l, e := f.Rows()
	mustTell(t, "Rows", l, e, told(0, 0, rows(bits(1<<63), bits(theNaN), bits(theNaN))...), api.OK)
}
