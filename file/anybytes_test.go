package file_test

import (
	"bytes"
	"math"
	"runtime"
	"slices"
	"strings"
	"testing"

	"gabion/api"
	"gabion/file"
	"gabion/frame"
	"gabion/schema"
)

// schemasBy are the schemas that the frames of any bytes tell, by their numbers.
func schemasBy(b []byte) map[int64][]api.Schema {
	all := map[int64][]api.Schema{}
	for _, f := range schemaRuns(b) {
		all[f.Number] = append(all[f.Number], f.Schema)
	}
	return all
}

// isOf tells whether a row is one of a schema.
func isOf(r api.Row, s api.Schema) bool {
	if len(r.Values) != len(s.Columns) {
		return false
	}
	for i, c := range s.Columns {
		if !schema.Is(r.Values[i], c.Type) {
			return false
		}
	}
	return true
}

// readable are the rows that stand in the frames at the beginning of any bytes: of each the greatest schema number ahead of it, and that schema.
func readable(b []byte) (numbers []int64, schemas []api.Schema) {
	greatest, last := int64(-1), api.Schema{}
	for at := 0; at < len(b) && b[at] == 0; {
		size := bytes.IndexByte(b[at+1:], 0)
		if size < 0 {
			break
		}
		f, e := frame.Decode(b[at+1 : at+1+size])
		if e != api.OK {
			break
		}
		if f.Kind == 1 && f.Number >= greatest {
			greatest, last = f.Number, f.Schema
		}
		for range f.Rows {
			numbers, schemas = append(numbers, greatest), append(schemas, last)
		}
		at += size + 2
	}
	return numbers, schemas
}

// survives makes all calls of a file of any bytes: each ends, and each row that is told is one of a schema that a frame tells: P0.4. It tells how many rows these were.
func survives(t *testing.T, b []byte) int {
	t.Helper()
	p := oddOf(t, b)
	numbers, schemas := readable(b)
	l, _ := p.rows()
	if len(l) > len(numbers) {
		t.Fatalf("%d rows of %d", len(l), len(numbers))
	}
	for k, one := range l {
		if one.At != int64(k) || one.Number != numbers[k] || one.E != api.OK || !isOf(one.Row, schemas[k]) {
			t.Fatalf("row %d of %.60x: %s is not of the schema %d, %s", k, b, brief(toldText(one)), numbers[k], schemaText(schemas[k]))
		}
	}
	under := of(with("a", optOf(ofFloat), opt()), with("z", ofInt, number(0)))
	m, _ := p.as(under)
	if len(m) != len(l) {
		t.Fatalf("As tells %d rows, Rows %d", len(m), len(l))
	}
	for k, one := range m {
		if one.At != int64(k) || one.Number != l[k].Number || (one.E == api.OK) != isOf(one.Row, under) {
			t.Fatalf("row %d: %s", k, brief(toldText(one)))
		}
	}
	known := schemasBy(b)
	told := len(l)
	mustBeKnown := func(number int64, r api.Row) {
		t.Helper()
		told++
		if !slices.ContainsFunc(known[number], func(s api.Schema) bool { return isOf(r, s) }) {
			t.Fatalf("of %.60x: a row that is of no schema %d: %s", b, number, brief(rowsText([]api.Row{r})))
		}
	}
	for _, n := range []int64{0, 1, int64(len(l)) - 1, int64(len(l)), -1, 1 << 39, math.MaxInt64} {
		rest, _ := p.from(n)
		for _, one := range rest {
			mustBeKnown(one.Number, one.Row)
		}
	}
	for _, one := range p.salvage() {
		for _, r := range one.Rows {
			mustBeKnown(one.Number, r)
		}
	}
	p.repaired(l)
	return told
}

// repaired: an opening ends, whatever the bytes are: either it is damaged, and stays as it was, or the rows that were read are there, and it goes on.
func (p *twins) repaired(l []api.Told) {
	p.t.Helper()
	before := p.f.Bytes()
	switch e := p.openUnder(two); e {
	case api.ErrDamaged:
		if !bytes.Equal(p.f.Bytes(), before) {
			p.t.Fatalf("a damaged file was changed")
		}
	case api.OK:
		if !bytes.HasPrefix(before, p.f.Bytes()) {
			p.t.Fatalf("an opening wrote something")
		}
		got, _ := p.rows()
		mustTell(p.t, "Rows", got, api.OK, l, api.OK)
		if e := p.append([]api.Row{values(number(1), text("x"))}); e != api.OK && e != api.ErrNoSpace {
			p.t.Fatalf("Append behind an opening: %d", e)
		}
		p.close()
	default:
		p.t.Fatalf("Open: %d", e)
	}
}

// TestAnyBytesPlain: P0.4: no bytes, one, zeros, no zeros, noise, one run that is too long.
func TestAnyBytesPlain(t *testing.T) {
	for c := range 256 {
		survives(t, []byte{byte(c)})
		survives(t, []byte{0, byte(c), 0})
	}
	for _, b := range [][]byte{nil, row(0, 3000), row(5, 9000), join(row(0, 1), row(5, 9000)), join(row(0, 1), row(5, maxFrame), row(0, 1)), join(row(0, 1), row(255, maxFrame), row(0, 1)), bytes.Repeat([]byte{0, 1}, 2000)} {
		survives(t, b)
	}
	for k := range uint64(300) {
		survives(t, mixedBytes(k, int(k*k/30), k%12))
	}
}

// oddFrames are frames, some of them in one another's way: with numbers that fall and repeat, blocks that are no rows, indexes that say what is not so.
func oddFrames() [][]byte {
	var l [][]byte
	for _, n := range []int64{0, 0, 1, 2, 5, 1<<31 - 1} {
		for _, s := range []api.Schema{ints, texts, two, nested, floats} {
			l = append(l, encoded(schemaFrame(n, s)))
		}
	}
	for _, n := range []int64{0, 0, 1, 5, 1<<31 - 1} {
		for seq := range int64(3) {
			for _, block := range []string{"\x00\x02", "\x00\x02\x04", "\x00\x01x", "\x00", "", "\x01\x02\x02", "\x00\x00\x00\x01", "\x02"} {
				l = append(l, encoded(dataFrame(n, seq, seq, 1, block)), encoded(dataFrame(n, seq, 2*seq, 2, block)), encoded(dataFrame(n, seq<<38, 1<<40-1, 64, block)))
			}
		}
	}
	for _, at := range []int64{0, 17, 34, 1<<40 - 1} {
		for _, n := range []int64{0, 1, 2, 1<<40 - 1} {
			l = append(l, encoded(indexFrame(at, n, n)), encoded(indexFrame(at, n, 2*n%(1<<40), entry(at, 0, 0))), encoded(indexFrame(at, n, n, slices.Repeat([]api.Entry{entry(1<<40-1, 1<<40-1, 1<<40-1)}, 64)...)))
		}
	}
	return append(l, row(0, 1), row(5, 3), fenced("\x05\x01\x02\x03\x04"), fenced(runOf("\x04")), fenced(runOf("\x01\x00\x00")))
}

// TestAnyBytesFrames: P0.4: odd frames one behind the other in whatever order.
func TestAnyBytesFrames(t *testing.T) {
	frames := oddFrames()
	rows := 0
	for seed := range uint64(1500) {
		b := encoded(schemaFrame(0, ints))
		if seed%4 == 0 {
			b = nil
		}
		follows := int64(0)
		for i := range 1 + seed%12 {
			m := mixed(seed<<16 + i)
			if m>>32%3 > 0 { // one that follows, as far as no other one stands in its way
				b = append(b, encoded(dataFrame(0, follows, follows, 1, "\x00\x02"))...)
				follows++
				continue
			}
			b = append(b, frames[m%uint64(len(frames))]...)
		}
		rows += survives(t, b)
	}
	for i := range 5 {
		for _, data := range frames[30:] {
			rows += survives(t, join(frames[i], data, frames[i], data))
		}
	}
	if rows < 1000 {
		t.Fatalf("only %d rows", rows)
	}
}

// TestAnyBytesWritten: P0.4: files that were written, with bytes changed, cut out and put in, in many places.
func TestAnyBytesWritten(t *testing.T) {
	rows := 0
	for i, steps := range [][]step{shortScript(), again(), script()} {
		whole := closed(t, written(t, steps...)).Bytes()
		for seed := range uint64(120) {
			b := bytes.Clone(whole)
			for j := range 1 + seed%6 {
				m := mixed(uint64(i)<<40 + seed<<8 + j)
				at := int(m % uint64(len(b)))
				to := min(len(b), at+int(m>>24%30))
				switch m >> 60 % 4 {
				case 0:
					b[at] ^= byte(m>>32) | 1
				case 1:
					b = slices.Delete(b, at, to)
				case 2:
					b = slices.Insert(b, at, mixedBytes(m, int(m>>24%30), 4)...)
				case 3:
					b = slices.Insert(b, at, bytes.Clone(b[at:to])...)
				}
			}
			rows += survives(t, b)
		}
	}
	if rows < 5000 {
		t.Fatalf("only %d rows", rows)
	}
}

// TestAnyBytesOrder: P0.4: the frames of a file in another order, some twice, some left out.
func TestAnyBytesOrder(t *testing.T) {
	for _, steps := range [][]step{shortScript(), again()} {
		whole := closed(t, written(t, steps...)).Bytes()
		frames := framesOf(whole)
		for seed := range uint64(200) {
			var b []byte
			for i := range frames {
				m := mixed(seed<<16 + uint64(i))
				one := frames[i]
				if m%5 == 0 {
					one = frames[m>>8%uint64(len(frames))]
				}
				b = append(b, whole[one.from:one.to]...)
			}
			survives(t, b)
		}
	}
}

// TestDeclaredLengths: P0.4: lengths that are only declared: of texts, lists, literals, matches, entries, columns, rows: next to nothing is allocated for them.
func TestDeclaredLengths(t *testing.T) {
	lists := of(plain("a", listOf(listOf(listOf(ofText)))))
	var all [][]byte
	for _, block := range []string{
		"\x00\x80\x02", "\x00\x80\x02\x80\x02\x80\x02", "\x00\x80\x02\x80\x02\x80\x02\x80\x08", "\x00\x80\x02" + strings.Repeat("\x80\x02", 20), "\x00\xff\xff\xff\xff\xff\xff\xff\xff\x7f", "\x01\xfe\xff\xff\xff\xff\xff\xff\xff\x7f", "\x01\x80\x20", "\x01\x02\x00\xff\xff\x7f\x01", "\x01\xff\x03\x01", "\x01\xfe\x0f\x01",
	} {
		for _, s := range []api.Schema{lists, texts, blobs} {
			all = append(all, join(encoded(schemaFrame(0, s)), encoded(dataFrame(0, 0, 0, 64, block))))
		}
	}
	for _, run := range []string{
		"\x01\x00\x10", "\x01\x00\xff\xff\xff\xff\xff\xff\xff\xff\x7f", "\x01\x00\x01\x10a", "\x01\x00\x01\x01a\x04\x01\x80\x08", "\x01\x00\x01\x01a\x07\x07\x07\x02\x01\x80\x02\x80\x02\x80\x02", "\x02\x00\x00\x00\x40", "\x02\x00\xff\xff\xff\xff\xff\x1f\xff\xff\xff\xff\xff\x1f\x40\x00\x02",
		"\x03\x00\x00\x00\x40", "\x03\x00\x00\x00\xff\xff\xff\xff\xff\xff\xff\xff\x7f", "\x03\xff\xff\xff\xff\xff\x1f\xff\xff\xff\xff\xff\x1f\xff\xff\xff\xff\xff\x1f\x40",
	} {
		all = append(all, fenced(runOf(run)), join(fenced(runOf(run)), fenced(runOf(run))))
	}
	for _, b := range all {
		if n := allocated(b); n > 60000 {
			t.Fatalf("of the %d bytes %x: %d were allocated", len(b), b, n)
		}
		survives(t, b)
	}
}

// allocated is how much the reading, saving, seeking and repairing of bytes allocates.
func allocated(b []byte) uint64 {
	f := fileOf(b)
	c := fileOf(b)
	var before, behind runtime.MemStats
	runtime.ReadMemStats(&before)
	useAll(f)
	c.Open(ints)
	runtime.ReadMemStats(&behind)
	return behind.TotalAlloc - before.TotalAlloc
}

func useAll(f *file.File) {
	f.Rows()
	f.As(ints, nil)
	for _, n := range []int64{0, 1, 1 << 39} {
		f.From(n)
	}
	f.Salvage()
}

// TestAnyBytesGreat: P0.4: as many bytes as there may be: one run, zeros, fences, frames over and over.
func TestAnyBytesGreat(t *testing.T) {
	data := join(encoded(schemaFrame(0, ints)), encoded(dataFrame(0, 0, 0, 1, "\x00\x02")))
	for _, b := range [][]byte{row(0, 2*maxQuota), row(5, 2*maxQuota), bytes.Repeat([]byte{0, 5}, maxQuota), bytes.Repeat(data, 2*maxQuota/len(data)), bytes.Repeat(encoded(schemaFrame(0, ints)), 20000)} {
		f := fileOf(b)
		useAll(f)
		if e := f.Open(ints); e != api.OK && e != api.ErrDamaged || (e == api.OK) != f.Opened() {
			t.Fatalf("Open: %d", e)
		}
	}
}
