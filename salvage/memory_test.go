package salvage_test

import (
	"bytes"
	"runtime"
	"slices"
	"testing"

	"gabion/api"
	"gabion/salvage"
)

// deep is a file of rows with lists within lists, of schemas with defaults of all depths.
func deep() *laid {
	l := &laid{}
	for n := range int64(3) {
		s := of(
			plain("l", listOf(optOf(listOf(ofInt)))), plain("t", ofText),
			with("d", listOf(optOf(listOf(ofFloat))), list(opt(list(bits(theNaN), bits(1<<63))), opt(list(float(float64(n)))), opt())),
		)
		l.schema(n, s)
		for range 3 {
			l.data([]api.Row{
				values(list(opt(list(number(1), number(2))), opt(), opt(list())), text("x"), list(opt(list(float(1), float(2))))),
				values(list(opt(list(number(3)))), text("y"), list(opt())),
				values(list(), text(""), list()),
			})
		}
		l.schema(n, s)
		l.index()
	}
	return l
}

// withRoom is a list with room behind it, in which something stands that is not the list's.
func withRoom[T any](l []T, room ...T) []T {
	all := slices.Concat(l, room)
	return all[:len(l)]
}

func roomyValue(v api.Value) api.Value {
	var items []api.Value
	for _, item := range v.Items {
		items = append(items, roomyValue(item))
	}
	v.Items = withRoom(items, bits(0xfff8000000000bad), text("room"))
	return v
}

func roomyType(t api.Type) api.Type {
	var inner []api.Type
	for _, one := range t.Of {
		inner = append(inner, roomyType(one))
	}
	t.Of = withRoom(inner, kind(77), kind(78))
	return t
}

// roomy are numbered schemas that have memory of their own, and room behind each of their lists.
func roomy(l []api.Numbered) []api.Numbered {
	var all []api.Numbered
	for _, x := range l {
		var columns []api.Column
		for _, c := range x.Schema.Columns {
			columns = append(columns, api.Column{Name: c.Name, Type: roomyType(c.Type), Has: c.Has, Default: roomyValue(c.Default)})
		}
		all = append(all, named(x.Number, of(withRoom(columns, plain("room", kind(79)), plain("z", ofInt))...)))
	}
	return withRoom(all, named(0, texts), named(1, ints))
}

func openedValue(v api.Value) api.Value {
	all := v
	all.Items = nil
	for _, item := range v.Items[:cap(v.Items)] {
		all.Items = append(all.Items, openedValue(item))
	}
	return all
}

func openedType(t api.Type) api.Type {
	all := kind(t.Kind)
	for _, inner := range t.Of[:cap(t.Of)] {
		all.Of = append(all.Of, openedType(inner))
	}
	return all
}

// opened tells all that stands in the schemas' lists, with the room behind them.
func opened(l []api.Numbered) string {
	var all []api.Numbered
	for _, x := range l[:cap(l)] {
		var s api.Schema
		for _, c := range x.Schema.Columns[:cap(x.Schema.Columns)] {
			c.Type, c.Default = openedType(c.Type), openedValue(c.Default)
			s.Columns = append(s.Columns, c)
		}
		all = append(all, named(x.Number, s))
	}
	return numberedText(all...)
}

// spoilValues writes into a list of values, those deep inside first, and into the room behind them.
func spoilValues(l []api.Value) {
	for _, v := range l {
		spoilValues(v.Items)
	}
	all := l[:cap(l)]
	for i := range all {
		all[i] = api.Value{Kind: -99, Int: 99, Float: 99, Text: "spoilt"}
	}
}

func spoilTypes(l []api.Type) {
	for _, t := range l {
		spoilTypes(t.Of)
	}
	clear(l[:cap(l)])
}

// spoil writes into numbered schemas likewise, spoilBatches into batches.
func spoil(l []api.Numbered) {
	for _, x := range l {
		for _, c := range x.Schema.Columns {
			spoilTypes(c.Type.Of)
			spoilValues(c.Default.Items)
		}
		clear(x.Schema.Columns[:cap(x.Schema.Columns)])
	}
	all := l[:cap(l)]
	for i := range all {
		all[i] = named(99, ints)
	}
}

func spoilBatches(l []api.Batch) {
	for _, one := range l {
		for _, r := range one.Rows {
			spoilValues(r.Values)
		}
		clear(one.Rows[:cap(one.Rows)])
	}
	clear(l[:cap(l)])
}

// within is b within a larger list, with room ahead of it and behind, in which frames stand, and that list.
func within(b []byte) (inner, outer []byte) {
	room := framesOf(named(0, two), named(1, two), named(2, two))
	outer = join(room, b, room)
	return outer[len(room) : len(room)+len(b)], outer
}

// TestArgumentStays: R4, R5: the bytes that are handed in stay, with what stands about them; nothing of that counts.
func TestArgumentStays(t *testing.T) {
	for _, l := range append(wholeFiles(), deep()) {
		inner, outer := within(l.b)
		kept := bytes.Clone(outer)
		sameBatches(t, "All", salvage.All(inner), l.batches())
		if got := salvage.Schemas(inner); numberedText(got...) != numberedText(wordSchemas(l.b)...) {
			t.Fatalf("Schemas: %s", brief(numberedText(got...)))
		}
		streamOf(wordSchemas(l.b), l.b).pieces(t)
		w := streamOf(wordSchemas(l.b), l.b)
		w.all = inner
		w.pieces(t, singly(inner, 50)...)
		if !bytes.Equal(outer, kept) {
			t.Fatalf("what was handed in was changed: %s", shown(l.b))
		}
	}
}

// TestFedIsNotKept: R4, R5: who writes over bytes that were fed, and over the room behind them, changes nothing of what is told later.
func TestFedIsNotKept(t *testing.T) {
	for _, l := range append(wholeFiles(), deep()) {
		w := streamOf(wordSchemas(l.b), l.b)
		for _, size := range []int{1, 3, 100, 2201} {
			s, from := salvage.New(w.schemas), 0
			buffer := make([]byte, size+20) // one buffer for all pieces, as one who reads a file has it
			for k, to := range append(singly(w.all, size), len(w.all)) {
				piece := append(buffer[:0], w.all[from:to]...)
				got := s.Feed(piece)
				for i := range buffer {
					buffer[i] = byte(k+i) % 3
				}
				sameBatches(t, "from a buffer", got, w.between(from, to))
				if s.Held() != w.held(to) {
					t.Fatalf("Held %d, want %d", s.Held(), w.held(to))
				}
				from = to
			}
		}
	}
}

// TestNewKeepsNothing: R4, R5, R6: the schemas that are handed in to New stay, with the room behind each list; who writes over them later changes nothing of what is told.
func TestNewKeepsNothing(t *testing.T) {
	l := deep()
	schemas := wordSchemas(l.b)
	for _, list := range [][]api.Numbered{schemas, slices.Concat(schemas, schemas), append(slices.Clip(schemas), named(7, wide(17)), named(-1, ints), named(8, ints), named(8, texts))} {
		given := roomy(list)
		before := opened(given)
		early, late := salvage.New(given), salvage.New(given)
		half := len(l.b) / 2
		got := slices.Concat(early.Feed(l.b[:half]), early.Feed(l.b[half:]))
		sameBatches(t, "ahead of it", got, l.batches())
		first := late.Feed(l.b[:half])
		if opened(given) != before {
			t.Fatalf("what was handed in was changed")
		}
		spoil(given)
		sameBatches(t, "behind it", append(first, late.Feed(l.b[half:])...), l.batches())
		sameBatches(t, "once more", early.Feed(nil), nil)
	}
}

// TestAnswersAreTheCallers: R4, R5: who writes over what was told, and over the room behind it, changes nothing of what is told later.
func TestAnswersAreTheCallers(t *testing.T) {
	l := deep()
	schemas := numberedText(wordSchemas(l.b)...)
	for range 3 {
		s := salvage.New(salvage.Schemas(l.b))
		spoil(salvage.Schemas(l.b))
		spoilBatches(salvage.All(l.b))
		for range 3 {
			first, second := s.Feed(l.b), salvage.All(l.b)
			kept := batchText(second...)
			spoilBatches(first)
			if batchText(second...) != kept {
				t.Fatalf("one answer changed another one")
			}
			sameBatches(t, "All", second, l.batches())
		}
		last := s.Feed(l.b)
		for k := range last {
			last[k].At -= 3 * len(l.b)
		}
		sameBatches(t, "Feed behind it", last, l.batches())
		if got := salvage.Schemas(l.b); numberedText(got...) != schemas {
			t.Fatalf("Schemas behind it: %s", brief(numberedText(got...)))
		}
	}
}

// memory is each place of the lists that it was shown, with the room behind them.
type memory map[any]bool

// claim tells whether nothing of a list was shown ahead of it.
func claim[T any](m memory, l []T) bool {
	free := true
	all := l[:cap(l)]
	for i := range all {
		free = free && !m[&all[i]]
		m[&all[i]] = true
	}
	return free
}

func (m memory) values(l []api.Value) bool {
	free := claim(m, l)
	for _, v := range l {
		free = m.values(v.Items) && free
	}
	return free
}

func (m memory) types(l []api.Type) bool {
	free := claim(m, l)
	for _, t := range l {
		free = m.types(t.Of) && free
	}
	return free
}

func (m memory) numbered(l []api.Numbered) bool {
	free := claim(m, l)
	for _, x := range l {
		free = claim(m, x.Schema.Columns) && free
		for _, c := range x.Schema.Columns {
			free = m.types(c.Type.Of) && m.values(c.Default.Items) && free
		}
	}
	return free
}

func (m memory) batches(l []api.Batch) bool {
	free := claim(m, l)
	for _, one := range l {
		free = claim(m, one.Rows) && free
		for _, r := range one.Rows {
			free = m.values(r.Values) && free
		}
	}
	return free
}

// TestNewMemory: R4: no two lists of what is told share any memory, none with what was handed in or with what another call told, nor the room behind them.
func TestNewMemory(t *testing.T) {
	l := deep()
	given := memory{}
	claim(given, l.b)
	schemas := wordSchemas(l.b)
	given.numbered(schemas)
	s := salvage.New(schemas)
	for k := range 5 {
		if got := salvage.Schemas(l.b); len(got) != 3 || !given.numbered(got) {
			t.Fatalf("Schemas shares memory, or tells %d", len(got))
		}
		if got := salvage.All(l.b); len(got) != 9 || !given.batches(got) {
			t.Fatalf("All shares memory, or tells %d", len(got))
		}
		half := k * 200
		if got := append(s.Feed(l.b[:half]), s.Feed(l.b[half:])...); len(got) != 9 || !given.batches(got) {
			t.Fatalf("Feed shares memory, or tells %d", len(got))
		}
	}
	if len(given) < 2000 {
		t.Fatalf("only %d places", len(given))
	}
}

// TestLongIsNotHeld: P17.5: of what stands ahead of the first fence, and of a run that is too long, nothing is held, however long it goes on; nor of what was told.
func TestLongIsNotHeld(t *testing.T) {
	frames := bytes.Repeat(encoded(dataOf(0, 3, 4, ints, numbers(1, 2))), 100)
	for _, piece := range [][]byte{row(7, 4096), row(0, 4096), frames} {
		s := salvage.New(common)
		s.Feed([]byte{5, 0, 6, 0, 7})
		var before, behind runtime.MemStats
		runtime.GC()
		runtime.ReadMemStats(&before)
		for range 1000 {
			s.Feed(piece)
		}
		runtime.GC()
		runtime.ReadMemStats(&behind)
		if int64(behind.HeapAlloc)-int64(before.HeapAlloc) > 1<<20 || s.Held() != 0 {
			t.Fatalf("%d bytes more, Held %d", int64(behind.HeapAlloc)-int64(before.HeapAlloc), s.Held())
		}
		runtime.KeepAlive(s)
	}
}
