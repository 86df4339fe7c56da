package file_test

import (
	"bytes"
	"slices"
	"testing"

	"gabion/api"
	"gabion/file"
	"gabion/frame"
	"gabion/salvage"
)

// known is a whole file of which its frames, and the rows of its data frames, are known.
type known struct {
	b       []byte
	frames  []placed
	batches []api.Batch
}

// knownOf is a file with these appends; it is closed.
func knownOf(t *testing.T, steps ...step) known {
	t.Helper()
	k := known{b: closed(t, written(t, steps...)).Bytes()}
	k.frames = framesOf(k.b)
	for _, one := range k.frames {
		if one.f.Kind == 2 {
			n := len(k.batches)
			k.batches = append(k.batches, api.Batch{At: one.from, Number: one.f.Number, Seq: int64(n), First: one.f.First, Rows: fixedRows(steps[n].l)})
		}
	}
	return k
}

// again are steps under a few schemas, of which each has several schema frames.
func again() []step {
	var l []step
	for range 9 {
		l = append(l, step{ints, numbers(1, 2)})
	}
	for range 9 {
		l = append(l, step{two, []api.Row{values(number(3), text("y"))}})
	}
	return append(l, step{floats, []api.Row{values(float(0.5), list())}})
}

// undamaged tells whether no byte of a frame is another one.
func (k known) undamaged(one placed, b []byte) bool {
	return one.to <= len(b) && bytes.Equal(b[one.from:one.to], k.b[one.from:one.to])
}

// schemaRuns are the schema frames among the runs of any bytes.
func schemaRuns(b []byte) []api.Frame {
	var all []api.Frame
	pieces := bytes.Split(b, []byte{0})
	for i, run := range pieces {
		if i == 0 || i == len(pieces)-1 || len(run) == 0 {
			continue
		}
		if f, e := frame.Decode(run); e == api.OK && f.Kind == 1 {
			all = append(all, f)
		}
	}
	return all
}

// saved are the batches that P0.3 asks for, of other bytes in the file's place.
func (k known) saved(b []byte) []api.Batch {
	schemas := map[int64]string{}
	for _, one := range k.frames {
		if one.f.Kind == 1 && k.undamaged(one, b) {
			schemas[one.f.Number] = schemaText(one.f.Schema)
		}
	}
	for _, f := range schemaRuns(b) {
		if schemas[f.Number] != schemaText(f.Schema) {
			delete(schemas, f.Number)
		}
	}
	var all []api.Batch
	n := 0
	for _, one := range k.frames {
		if one.f.Kind != 2 {
			continue
		}
		if k.undamaged(one, b) && schemas[one.f.Number] != "" {
			all = append(all, k.batches[n])
		}
		n++
	}
	return all
}

// mustSave asks that all of these are told, in order, and tells how many they are, and how many were told.
func (k known) mustSave(t *testing.T, f *file.File) (asked, told int) {
	t.Helper()
	got := f.Salvage()
	want := k.saved(f.Bytes())
	left := got
	for _, one := range want {
		at := slices.IndexFunc(left, func(x api.Batch) bool { return batchText(x) == batchText(one) })
		if at < 0 {
			t.Fatalf("not told, or not in order: %s", brief(batchText(one)))
		}
		left = left[at+1:]
	}
	return len(want), len(got)
}

// mustSaveJust asks that these are told, and no others.
func (k known) mustSaveJust(t *testing.T, f *file.File) int {
	t.Helper()
	asked, told := k.mustSave(t, f)
	if asked != told {
		t.Fatalf("%d batches, want %d", told, asked)
	}
	return asked
}

// TestSavedOverwritten: P0.3: each byte of a small file overwritten: the rows of all data frames are told that it does not lie in, if a frame of their schema is undamaged.
func TestSavedOverwritten(t *testing.T) {
	for _, steps := range [][]step{shortScript(), again()} {
		k := knownOf(t, steps...)
		f := fileOf(k.b)
		if n := k.mustSaveJust(t, f); n != len(steps) {
			t.Fatalf("without damage: %d batches, want %d", n, len(steps))
		}
		for _, one := range k.frames {
			for at := one.from; at < one.to; at++ {
				for _, v := range []byte{0, 1, 9, 255, k.b[at] ^ 1, k.b[at] ^ 128, k.b[at] + 1} {
					if v == k.b[at] {
						continue
					}
					must(t, "Damage", f.Damage(at, v), api.OK)
					n := k.mustSaveJust(t, f)
					if one.f.Kind == 2 && n != len(steps)-1 || one.f.Kind == 3 && n != len(steps) {
						t.Fatalf("byte %d of a frame of the kind %d: %d batches of %d", at, one.f.Kind, n, len(steps))
					}
				}
				must(t, "Damage", f.Damage(at, k.b[at]), api.OK)
			}
		}
	}
}

// TestSavedBySchema: P0.3: a schema frame overwritten: the rows of its number are told by another frame of that number, and lost, if there is none.
func TestSavedBySchema(t *testing.T) {
	k := knownOf(t, again()...)
	if got := kindsOf(k.b); got != "SDDDDDDDDSDSDDDDDDDDSDSDX" {
		t.Fatalf("frames: %s", got)
	}
	for _, x := range []struct {
		frames []int
		want   int
	}{{[]int{0}, 19}, {[]int{9}, 19}, {[]int{0, 9}, 10}, {[]int{11}, 19}, {[]int{11, 20}, 10}, {[]int{22}, 18}, {[]int{0, 9, 11, 20, 22}, 0}, {[]int{0, 11, 24}, 19}} {
		f := fileOf(k.b)
		for _, n := range x.frames {
			must(t, "Damage", f.Damage(k.frames[n].from+4, k.b[k.frames[n].from+4]^3), api.OK)
		}
		if n := k.mustSaveJust(t, f); n != x.want {
			t.Fatalf("frames %v overwritten: %d batches, want %d", x.frames, n, x.want)
		}
	}
}

// TestSavedCut: P0.3: each end cut from a file: the rows of the data frames that are whole there.
func TestSavedCut(t *testing.T) {
	for _, steps := range [][]step{shortScript(), again()} {
		k := knownOf(t, steps...)
		for n := range len(k.b) + 1 {
			want := 0
			for _, one := range k.frames {
				if one.f.Kind == 2 && one.to <= n {
					want++
				}
			}
			if got := k.mustSaveJust(t, fileOf(k.b[:n])); got != want {
				t.Fatalf("cut at %d: %d batches, want %d", n, got, want)
			}
		}
	}
}

// tails are bytes that are put on.
func tails() [][]byte {
	data := encoded(dataFrame(0, 90, 91, 1, "\x00\x02"))
	return [][]byte{
		nil, {0}, {5}, row(0, 20), row(5, 20), row(5, 5000), {0, 5}, {5, 0}, {0, 5, 0}, data, data[1:], data[:len(data)-1], mixedBytes(5, 300, 4), mixedBytes(6, 300, 30), join(row(0, 1), row(5, maxFrame)), encoded(indexFrame(0, 0, 0)),
		encoded(schemaFrame(0, ints)), encoded(schemaFrame(0, texts)), encoded(schemaFrame(1, two)), join(encoded(schemaFrame(1, ints)), encoded(schemaFrame(2, ints))), encoded(schemaFrame(50, ints)), join(encoded(schemaFrame(0, texts)), encoded(schemaFrame(1, texts)), encoded(schemaFrame(2, texts)), encoded(schemaFrame(3, texts))),
	}
}

// TestSavedPutOn: P0.3: bytes laid behind a file, and behind each end of it that was cut: noise, frames, schema frames of the same numbers with the same schema, and with another one: then no row of that number is told.
func TestSavedPutOn(t *testing.T) {
	k := knownOf(t, shortScript()...)
	all, lost := 0, 0
	for _, tail := range tails() {
		for n := len(k.b); n >= 0; n -= 1 + n%3 {
			f := fileOf(k.b[:n])
			whole, _ := k.mustSave(t, f)
			must(t, "Tail", f.Tail(tail), api.OK)
			asked, _ := k.mustSave(t, f)
			all, lost = all+asked, lost+whole-asked
		}
	}
	if all < 2000 || lost < 200 {
		t.Fatalf("%d batches, %d lost by another schema", all, lost)
	}
	f := fileOf(k.b)
	must(t, "Tail", f.Tail(encoded(schemaFrame(1, texts))), api.OK)
	for _, one := range f.Salvage() {
		if one.Number == 1 {
			t.Fatalf("rows of a doubtful number: %s", batchText(one))
		}
	}
}

// TestSavedMany: P0.3: many bytes overwritten, in several places, over several frames, of long files; the end cut and others put on.
func TestSavedMany(t *testing.T) {
	told := 0
	for i, steps := range [][]step{shortScript(), again(), script(), slices.Concat(script(), script())} {
		k := knownOf(t, steps...)
		for seed := range uint64(60) {
			b := bytes.Clone(k.b)
			for j := range 1 + seed%5 {
				m := mixed(uint64(i)<<32 + seed<<8 + j)
				at := int(m % uint64(len(b)))
				copy(b[at:], mixedBytes(m>>8, 1+int(m>>16%90), m>>32%4))
			}
			m := mixed(uint64(i)<<40 + seed)
			if seed%3 == 0 {
				b = append(b[:len(b)-int(m%100)], mixedBytes(m, int(m>>8%200), 5)...)
			}
			asked, _ := k.mustSave(t, fileOf(b))
			told += asked
			mustHold(t, b)
		}
	}
	if told < 2000 {
		t.Fatalf("only %d batches", told)
	}
}

// mustHold: P0.3: salvage holds at most MaxFrame bytes of a frame, however the bytes come, and tells the same.
func mustHold(t *testing.T, b []byte) {
	t.Helper()
	want := batchText(fileOf(b).Salvage()...)
	for _, size := range []int{1, 100, maxFrame, maxFrame + 3} {
		s := salvage.New(salvage.Schemas(b))
		var got []api.Batch
		for piece := range slices.Chunk(b, size) {
			got = append(got, s.Feed(piece)...)
			if s.Held() > maxFrame {
				t.Fatalf("%d bytes are held", s.Held())
			}
		}
		if batchText(got...) != want {
			t.Fatalf("in pieces of %d bytes: other batches", size)
		}
	}
}

// TestSavedTorn: P0.3: a file behind a crash, ahead of the next opening: the rows of all data frames that are whole there.
func TestSavedTorn(t *testing.T) {
	k := knownOf(t, shortScript()...)
	for after := range k.frames[len(k.frames)-1].from {
		f := newFile(plenty)
		must(t, "Open", f.Open(ints), api.OK)
		must(t, "Fail", f.Fail(after, len(k.b)), api.OK)
		for _, one := range shortScript() {
			f.Change(one.s)
			f.Append(one.l)
		}
		want := 0
		for _, one := range k.frames {
			if one.f.Kind == 2 && one.to <= after {
				want++
			}
		}
		if got := k.mustSaveJust(t, f); got != want || len(f.Bytes()) != after {
			t.Fatalf("power failed behind %d bytes: %d batches, want %d", after, got, want)
		}
	}
}
