package writer_test

import (
	"bytes"
	"testing"

	"gabion/api"
	"gabion/dev"
	"gabion/writer"
)

// TestOpenEmpty: P19.1, P19.5: of a file of no bytes there is nothing, and the schema is its first one; nothing is written.
func TestOpenEmpty(t *testing.T) {
	for _, s := range []api.Schema{ints, texts, floats, nested, wide(16), longSchema(1024)} {
		for _, quota := range []int{0, 1, plenty, api.MaxQuota} {
			p := begin(t, deviceOf(quota, nil), s)
			p.mustStand("", 0, 0, 0)
			if p.d.Len() != 0 || p.d.Written() != 0 {
				t.Fatalf("an Open wrote %d bytes, %d deeds", p.d.Len(), p.d.Written())
			}
		}
	}
}

// TestOpenRefusedSchemas: P19.1: schema.Check's error, also where the file is down, damaged, or torn: that comes first; there is no writer, and nothing is cut.
func TestOpenRefusedSchemas(t *testing.T) {
	whole := plainFile(3).b
	damaged := bytes.Clone(whole)
	damaged[len(encoded(schemaFrame(0, ints)))+3] ^= 1
	for _, one := range refusedSchemas() {
		for _, b := range [][]byte{nil, whole, damaged, whole[:len(whole)-1], join(whole, encoded(schemaFrame(1, two))), row(5, 30)} {
			for _, down := range []bool{false, true} {
				d := device(b)
				if down {
					takeDown(d)
				}
				before := state(d)
				twinsOf(t, d).Open(one.s, one.want)
				if state(d) != before {
					t.Fatalf("%d: a refused Open changed the file", one.want)
				}
			}
		}
	}
}

// TestOpenDown: P19.1: of a file that is down ErrDown, whatever stands there; up again, it is opened.
func TestOpenDown(t *testing.T) {
	whole := plainFile(3).b
	for _, b := range [][]byte{nil, whole, whole[1:], whole[:len(whole)-1], row(5, 30)} {
		p := twinsOf(t, device(b))
		p.down()
		before := state(p.d)
		p.Open(ints, api.ErrDown)
		p.Open(two, api.ErrDown)
		if state(p.d) != before || p.w != nil {
			t.Fatalf("a refused Open changed the file")
		}
		p.start()
		if e := p.open1(ints); e == api.ErrDown {
			t.Fatalf("of a file that is up: ErrDown")
		}
	}
}

// TestOpenDamaged: P19.1: of a file that is damaged ErrDamaged, and nothing is cut; where only the last frame is, that goes.
func TestOpenDamaged(t *testing.T) {
	l := plainFile(4)
	for at := range l.b {
		b := bytes.Clone(l.b)
		b[at] ^= 64
		p := twinsOf(t, device(b))
		before := state(p.d)
		if at < l.place(4) {
			p.Open(ints, api.ErrDamaged)
			if state(p.d) != before || p.w != nil {
				t.Fatalf("byte %d: a refused Open changed the file", at)
			}
			continue
		}
		p.Open(ints, api.OK)
		p.mustStand("SDDD", 3, 3, 0)
		p.Append(numbers(5), api.OK)
	}
}

// TestOpenForeign: P19.1, P19.5: whole files that others wrote: what is there, without schema frames at the end; the schema's number under the file's last schema, and under another one; the next appends.
func TestOpenForeign(t *testing.T) {
	for k, l := range foreignFiles() {
		kept := words{l.all[:l.kept]}
		last, told := kept.last()
		for _, s := range []api.Schema{ints, texts, two, nested} {
			want := last + 1
			if last >= 0 && schemaText(s) == told {
				want = last
			}
			p := begin(t, device(l.b), s)
			p.mustStand(kept.kinds(), kept.frames(), kept.rows(), want)
			for range 2 {
				p.do(step{ints, numbers(4)}, step{two, []api.Row{values(number(4), text("x"))}}, step{ints, numbers(5, 6)}, step{ints, numbers(7)})
				p.Close(true, api.OK)
				p.Open(s, api.OK)
			}
			if p.w.Frames() != kept.frames()+8 || p.w.Rows() != kept.rows()+10 {
				t.Fatalf("file %d: Frames %d, Rows %d", k, p.w.Frames(), p.w.Rows())
			}
		}
	}
}

// TestOpenTorn: P19.1: the first bytes of a whole file, up to each place: the frames that are whole there are kept, but schema frames at the end; it goes on from there.
func TestOpenTorn(t *testing.T) {
	l := &laid{}
	l.schema(0, ints)
	l.data(2)
	l.data(1)
	l.index()
	l.schema(1, texts)
	l.schema(2, ints)
	l.data(3)
	l.schema(2, ints)
	l.index()
	for n := range len(l.b) + 1 {
		frames := 0
		for frames < len(l.all) && (frames+1 == len(l.all) && n == len(l.b) || frames+1 < len(l.all) && l.place(frames+1) <= n) {
			frames++
		}
		for frames > 0 && l.all[frames-1].f.Kind == 1 {
			frames--
		}
		kept := words{l.all[:frames]}
		p := begin(t, device(l.b[:n]), ints)
		if p.kinds() != kept.kinds() {
			t.Fatalf("cut at %d: %s, want %s", n, p.kinds(), kept.kinds())
		}
		p.Append(numbers(1), api.OK)
		p.Close(true, api.OK)
	}
}

// TestOpenNoise: P19.1: of bytes without frames nothing is kept.
func TestOpenNoise(t *testing.T) {
	for k := range uint64(50) {
		p := begin(t, device(mixedBytes(k, int(k)*13, k%7)), ints)
		p.mustStand("", 0, 0, 0)
		p.Append(numbers(1), api.OK)
		p.mustStand("SD", 1, 1, 0)
	}
}

// TestOpenPower: P19.1: power that fails in the cut: ErrPower, and no writer; behind Start it is opened as if that had never been.
func TestOpenPower(t *testing.T) {
	whole := plainFile(3).b
	for _, tail := range [][]byte{{0}, {5}, row(5, 50), encoded(schemaFrame(1, two))} {
		p := twinsOf(t, device(join(whole, tail)))
		p.fail(0, 0)
		p.Open(ints, api.ErrPower)
		p.Open(ints, api.ErrDown)
		if p.w != nil || p.d.Len() != len(whole)+len(tail) {
			t.Fatalf("%d bytes", p.d.Len())
		}
		p.start()
		p.Open(ints, api.OK)
		p.mustStand("SDDD", 3, 3, 0)
		p.Append(numbers(1), api.OK)
	}
}

// TestOpenIsNoDeed: P19.1: of a file of which nothing is cut nothing is done: power that is bound to fail does not, nothing is synced.
func TestOpenIsNoDeed(t *testing.T) {
	for _, b := range [][]byte{nil, plainFile(1).b, plainFile(20).b} {
		d, _ := dev.New(plenty)
		d.Write(b)
		d.Fail(0, 0)
		before := state(d)
		p := begin(t, d, ints)
		if state(d) != before || d.Synced() != 0 {
			t.Fatalf("an Open changed the file")
		}
		p.Append(numbers(1), api.ErrPower)
	}
}

// alike are schemas, some of which are the same: those of the same number here.
func alike() []struct {
	same int
	s    api.Schema
} {
	return []struct {
		same int
		s    api.Schema
	}{
		{0, of(with("a", ofFloat, bits(0)))}, {1, of(with("a", ofFloat, bits(1<<63)))}, {2, of(with("a", ofFloat, bits(theNaN)))}, {2, of(with("a", ofFloat, bits(0xfff8000000000001)))}, {2, of(with("a", ofFloat, bits(0x7ff0000000000001)))},
		{3, of(plain("a", ofFloat))}, {4, of(plain("b", ofFloat))}, {5, of(plain("a", optOf(ofFloat)))}, {6, of(plain("a", listOf(ofFloat)))}, {7, of(with("a", optOf(ofFloat), opt()))}, {8, of(with("a", optOf(ofFloat), opt(bits(theNaN))))}, {8, of(with("a", optOf(ofFloat), opt(bits(0xffffffffffffffff))))},
		{9, of(plain("a", ofFloat), plain("b", ofInt))}, {10, of(plain("b", ofInt), plain("a", ofFloat))},
		{11, of(with("a", listOf(ofInt), list()))}, {11, of(with("a", listOf(ofInt), api.Value{Kind: api.List, Items: []api.Value{}}))}, {12, of(with("a", listOf(ofInt), list(number(0))))}, {13, of(plain("a", ofText))}, {14, of(plain("a", ofBytes))},
	}
}

// someRow is a row of a schema, of defaults or of the first value there is.
func someRow(s api.Schema) api.Row {
	r := api.Row{}
	for _, c := range s.Columns {
		r.Values = append(r.Values, api.Value{Kind: c.Type.Kind})
	}
	return r
}

// TestOpenAlike: P19.1, P19.5: the number is the file's last one just if the schemas are the same: floats to the bit, all NaNs one; whether it is opened under it, or changed to.
func TestOpenAlike(t *testing.T) {
	for _, a := range alike() {
		for _, b := range alike() {
			want := int64(1)
			if a.same == b.same {
				want = 0
			}
			p := empty(t, a.s)
			p.Append([]api.Row{someRow(a.s)}, api.OK)
			p.Close(true, api.OK)
			p.Open(b.s, api.OK)
			p.mustStand("SDX", 1, 1, want)
			p.Append([]api.Row{someRow(b.s)}, api.OK)
			p.mustStand("SDX"+[]string{"D", "SD"}[want], 2, 2, want)

			p = empty(t, a.s)
			p.Append([]api.Row{someRow(a.s)}, api.OK)
			p.Change(b.s, api.OK)
			p.mustStand("SD", 1, 1, want)
			p.Append([]api.Row{someRow(b.s)}, api.OK)
			p.mustStand("SD"+[]string{"D", "SD"}[want], 2, 2, want)
		}
	}
}

// TestOpenLastCounts: P19.5: a schema that the file has, but not as its last one, is another one.
func TestOpenLastCounts(t *testing.T) {
	l := &laid{}
	l.schema(0, ints)
	l.data(1)
	l.schema(1, texts)
	l.lay(dataFrame(1, 1, 1, 1, "\x00\x00"))
	for _, x := range []struct {
		s    api.Schema
		want int64
	}{{ints, 2}, {texts, 1}, {two, 2}} {
		p := begin(t, device(l.b), x.s)
		p.mustStand("SDSD", 2, 2, x.want)
		p.Append([]api.Row{someRow(x.s)}, api.OK)
		if p.w.Number() != x.want {
			t.Fatalf("behind an Append: %d, want %d", p.w.Number(), x.want)
		}
	}
}

// TestOpenTwo: R5: writers of unlike files see nothing of each other.
func TestOpenTwo(t *testing.T) {
	p := empty(t, ints)
	p.do(script()[:12]...)
	d := p.d.Clone()
	p.Close(true, api.OK)
	q := twinsOf(t, d)
	q.Open(two, api.OK)
	q.do(step{two, []api.Row{values(number(1), text("x"))}})
	p.stands()
	q.stands()
	if e := p.w.Append(numbers(1)); e != api.ErrState {
		t.Fatalf("a writer that is closed: %d", e)
	}
	w, _ := writer.Open(p.d.Clone(), ints)
	if w.Frames() != 12 || q.w.Frames() != 13 {
		t.Fatalf("%d, %d", w.Frames(), q.w.Frames())
	}
}
