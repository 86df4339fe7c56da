package scan_test

import (
	"slices"
	"testing"

	"gabion/api"
	"gabion/scan"
)

// withRoom is a list with room behind it, in which something stands that is not the list's.
func withRoom[T any](l []T, room ...T) []T {
	all := slices.Concat(l, room)
	return all[:len(l)]
}

func roomyValue(v api.Value) api.Value {
	var items []api.Value
	for _, item := range v.Items {
		items = append(items, roomyValue(item))
	}
	v.Items = withRoom(items, nan(0xfff8000000000bad), text("room"))
	return v
}

func roomyType(t api.Type) api.Type {
	var inner []api.Type
	for _, one := range t.Of {
		inner = append(inner, roomyType(one))
	}
	t.Of = withRoom(inner, kind(77), kind(78))
	return t
}

func roomySchema(s api.Schema) api.Schema {
	var columns []api.Column
	for _, c := range s.Columns {
		columns = append(columns, api.Column{Name: c.Name, Type: roomyType(c.Type), Has: c.Has, Default: roomyValue(c.Default)})
	}
	return api.Schema{Columns: withRoom(columns, plain("room", kind(79)), plain("z", ofInt))}
}

// roomy has memory of its own, and room behind each of its lists.
func roomy(f api.Frame) api.Frame {
	f.Schema = roomySchema(f.Schema)
	f.Block = withRoom(f.Block, row(9, 20)...)
	f.Index.Entries = withRoom(f.Index.Entries, entry(-7, -7, -7), entry(8, 8, 8))
	return f
}

func openedValue(v api.Value) api.Value {
	all := v
	all.Items = nil
	for _, item := range v.Items[:cap(v.Items)] {
		all.Items = append(all.Items, openedValue(item))
	}
	return all
}

func openedType(t api.Type) api.Type {
	all := kind(t.Kind)
	for _, inner := range t.Of[:cap(t.Of)] {
		all.Of = append(all.Of, openedType(inner))
	}
	return all
}

// opened tells all that stands in a frame's lists, with the room behind them.
func opened(f api.Frame) string {
	columns := f.Schema.Columns
	f.Schema.Columns = nil
	for _, c := range columns[:cap(columns)] {
		c.Type, c.Default = openedType(c.Type), openedValue(c.Default)
		f.Schema.Columns = append(f.Schema.Columns, c)
	}
	f.Block = f.Block[:cap(f.Block)]
	f.Index.Entries = f.Index.Entries[:cap(f.Index.Entries)]
	return frameText(f)
}

func spoilValues(l []api.Value) {
	for _, v := range l {
		spoilValues(v.Items)
	}
	clear(l[:cap(l)])
}

func spoilTypes(l []api.Type) {
	for _, t := range l {
		spoilTypes(t.Of)
	}
	clear(l[:cap(l)])
}

func spoilSchema(s api.Schema) {
	for _, c := range s.Columns {
		spoilTypes(c.Type.Of)
		spoilValues(c.Default.Items)
	}
	clear(s.Columns[:cap(s.Columns)])
}

func spoilEntries(l []api.Entry) {
	for i := range l[:cap(l)] {
		l[:cap(l)][i] = entry(-9, -9, -9)
	}
}

// spoil writes into all lists of a frame, and into the room behind them.
func spoil(f api.Frame) {
	spoilSchema(f.Schema)
	clear(f.Block[:cap(f.Block)])
	spoilEntries(f.Index.Entries)
}

// unlike is a file with schemas of each depth, many entries and indexes.
func unlike() *laid {
	l := &laid{}
	for i, s := range []api.Schema{ints, floats, nested, pairs, of(with("f", ofFloat, nan(0xfff8000000000001)), with("l", listOf(optOf(listOf(ofFloat))), list(opt(list(nan(0x7ff0000000000001))), opt(list()))))} {
		l.schema(int64(i), s)
		for range 7 {
			l.data(3, "\x00\x02")
		}
		l.index()
		l.schema(int64(i), s)
	}
	return l
}

// TestNextKeepsNothing: R4, R5: what is handed in to Next stays, with the room behind each list, whether it is taken or not; who writes over it later changes nothing of the walk.
func TestNextKeepsNothing(t *testing.T) {
	p := fresh()
	for i, one := range unlike().all {
		wrong, right := roomy(one.f), roomy(one.f)
		wrong.Number, wrong.Index.Rows = one.f.Number+3, 1
		for _, x := range []struct {
			f    api.Frame
			want api.Errno
		}{{wrong, api.ErrOrder}, {right, api.OK}} {
			before := opened(x.f)
			if e := p.w.Next(x.f, int(one.at)); e != x.want {
				t.Fatalf("frame %d: %d, want %d", i, e, x.want)
			}
			if opened(x.f) != before {
				t.Fatalf("frame %d: what was handed in was changed: %s", i, brief(before))
			}
			spoil(x.f)
			if x.want == api.OK {
				p.words.next(one.f, int(one.at))
			}
			p.stands(t)
		}
	}
}

// TestResumeKeepsNothing: R4, R5: likewise of what is handed in to Resume.
func TestResumeKeepsNothing(t *testing.T) {
	for _, n := range []int{1, 2, 64, 70} {
		for _, k := range []int{0, 1, n - 1} {
			for _, s := range []api.Schema{ints, floats, nested} {
				x := someIndex(n)
				given := roomy(api.Frame{Schema: s, Index: x})
				before := opened(given)
				w := scan.Resume(given.Index, k, api.Numbered{Number: 2, Schema: given.Schema})
				if k >= n {
					if w != nil || opened(given) != before {
						t.Fatalf("Resume of no entry")
					}
					continue
				}
				p := &pair{w, resumed(x, k, api.Numbered{Number: 2, Schema: s})}
				for i := range 6 {
					p.must(t, p.words.ownData(1, ""), 100+i, api.OK)
				}
				if opened(given) != before {
					t.Fatalf("what was handed in was changed: %s", brief(before))
				}
				spoil(given)
				p.stands(t)
			}
		}
	}
}

// TestToldIsTheCallers: R4, R5: who writes over what was told, and over the room behind it, changes nothing of what a walk tells or takes later, nor of its clones.
func TestToldIsTheCallers(t *testing.T) {
	p := fresh()
	for _, one := range unlike().all {
		p.must(t, one.f, int(one.at), api.OK)
		q := p.clone()
		for n := int64(0); n <= p.words.Number(); n++ {
			s, _ := p.w.Schema(n)
			spoilSchema(s)
			s, _ = q.w.Schema(n)
			spoilSchema(s)
		}
		spoilEntries(p.w.Entries())
		spoilEntries(q.w.Entries())
		p.stands(t)
		q.stands(t)
		s, _ := p.words.Schema(p.words.Number())
		q.must(t, schemaFrame(p.words.Number(), s), 7, api.OK)
		q.must(t, p.words.ownData(1, ""), 8, api.OK)
		q.must(t, q.words.ownIndex(9), 9, api.OK)
		p.stands(t)
	}
}

// TestFrameIsTheCallers: R4: who writes over a frame that At told changes nothing of the file, nor of a walk that took it.
func TestFrameIsTheCallers(t *testing.T) {
	l := unlike()
	d := device(l.b)
	p := fresh()
	for i, one := range l.all {
		f, behind, e := scan.At(d, int(one.at))
		if e != api.OK || behind != l.behind(i) || p.w.Next(f, int(one.at)) != api.OK || p.words.next(one.f, int(one.at)) != api.OK {
			t.Fatalf("the frame at %d: %d, %d", one.at, behind, e)
		}
		spoil(f)
		p.stands(t)
		if string(d.All()) != string(l.b) {
			t.Fatalf("the file was changed")
		}
	}
}

// memory is each place of the lists that it was shown, with the room behind them.
type memory map[any]bool

// claim tells whether nothing of a list was shown ahead of it.
func claim[T any](m memory, l []T) bool {
	free := true
	all := l[:cap(l)]
	for i := range all {
		free = free && !m[&all[i]]
		m[&all[i]] = true
	}
	return free
}

func (m memory) types(l []api.Type) bool {
	free := claim(m, l)
	for _, t := range l {
		free = m.types(t.Of) && free
	}
	return free
}

func (m memory) values(l []api.Value) bool {
	free := claim(m, l)
	for _, v := range l {
		free = m.values(v.Items) && free
	}
	return free
}

func (m memory) schema(s api.Schema) bool {
	free := claim(m, s.Columns)
	for _, c := range s.Columns {
		free = m.types(c.Type.Of) && free
		free = m.values(c.Default.Items) && free
	}
	return free
}

func (m memory) frame(f api.Frame) bool {
	free := m.schema(f.Schema)
	free = claim(m, f.Block) && free
	return claim(m, f.Index.Entries) && free
}

// TestNewMemory: R4: no two lists of an answer share any memory, none with an argument or another answer, nor the room behind them; of a walk and its clone likewise.
func TestNewMemory(t *testing.T) {
	shown := memory{}
	l := unlike()
	d := device(l.b)
	w := scan.New()
	for _, one := range l.all {
		for range 2 {
			f, _, _ := scan.At(d, int(one.at))
			if !shown.frame(f) {
				t.Fatalf("the frame at %d shares memory", one.at)
			}
			if w.Frames() == one.f.Seq || one.f.Kind != api.DataFrame {
				w.Next(f, int(one.at))
			}
		}
		for _, v := range []*scan.Walk{w, w.Clone(), w} {
			for n := int64(0); n <= w.Number(); n++ {
				if s, is := v.Schema(n); !is || !shown.schema(s) {
					t.Fatalf("the schema %d shares memory", n)
				}
			}
			if !claim(shown, v.Entries()) {
				t.Fatalf("entries share memory")
			}
		}
	}
	if w.Frames() != 35 || len(shown) < 3000 {
		t.Fatalf("only %d data frames, %d places", w.Frames(), len(shown))
	}
}
