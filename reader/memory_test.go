package reader_test

import (
	"slices"
	"testing"

	"gabion/api"
	"gabion/dev"
	"gabion/reader"
	"gabion/scan"
)

// deep is a file of rows with lists within lists, and a schema under which each is read, with defaults of all depths.
func deep() (*dev.Dev, api.Schema) {
	s := of(plain("l", listOf(optOf(listOf(ofInt)))), plain("t", ofText))
	l := &laid{}
	for n := range int64(3) {
		l.schema(n, s)
		for range 3 {
			l.data([]api.Row{
				values(list(opt(list(number(1), number(2))), opt(), opt(list())), text("x")),
				values(list(opt(list(number(3)))), text("y")),
				values(list(), text("")),
			})
		}
		l.index()
	}
	under := of(
		with("l", listOf(optOf(listOf(ofFloat))), list(opt(list(bits(0x7ff0000000000001))))),
		with("d", listOf(optOf(listOf(ofFloat))), list(opt(list(bits(0xfff8000000000001), bits(1<<63))), opt())),
		with("t", ofBytes, rawBytes("z")),
	)
	return device(l.b), under
}

// ways are readers of one file in each way, all of which tell rows.
func ways(d *dev.Dev, s api.Schema) []func() *reader.Reader {
	under := func(names ...string) func() *reader.Reader {
		return func() *reader.Reader {
			r, _ := reader.As(d, s, names)
			return r
		}
	}
	return []func() *reader.Reader{
		func() *reader.Reader { return reader.Raw(d) },
		under(), under("d"), under("d", "l"), under("t", "d", "l"),
		func() *reader.Reader { return reader.From(d, 0, 4, scan.New()) },
	}
}

// withRoom is a list with room behind it, in which something stands that is not the list's.
func withRoom[T any](l []T, room ...T) []T {
	all := slices.Concat(l, room)
	return all[:len(l)]
}

func roomyValue(v api.Value) api.Value {
	var items []api.Value
	for _, item := range v.Items {
		items = append(items, roomyValue(item))
	}
	v.Items = withRoom(items, bits(0xfff8000000000bad), text("room"))
	return v
}

func roomyType(t api.Type) api.Type {
	var inner []api.Type
	for _, one := range t.Of {
		inner = append(inner, roomyType(one))
	}
	t.Of = withRoom(inner, kind(77), kind(78))
	return t
}

// roomy is a schema that has memory of its own, and room behind each of its lists.
func roomy(s api.Schema) api.Schema {
	var columns []api.Column
	for _, c := range s.Columns {
		columns = append(columns, api.Column{Name: c.Name, Type: roomyType(c.Type), Has: c.Has, Default: roomyValue(c.Default)})
	}
	return of(withRoom(columns, plain("room", kind(79)), plain("z", ofInt))...)
}

func openedValue(v api.Value) api.Value {
	all := v
	all.Items = nil
	for _, item := range v.Items[:cap(v.Items)] {
		all.Items = append(all.Items, openedValue(item))
	}
	return all
}

func openedType(t api.Type) api.Type {
	all := kind(t.Kind)
	for _, inner := range t.Of[:cap(t.Of)] {
		all.Of = append(all.Of, openedType(inner))
	}
	return all
}

// opened tells all that stands in a schema's lists, with the room behind them.
func opened(s api.Schema) string {
	var all api.Schema
	for _, c := range s.Columns[:cap(s.Columns)] {
		c.Type, c.Default = openedType(c.Type), openedValue(c.Default)
		all.Columns = append(all.Columns, c)
	}
	return schemaText(all)
}

// spoilValues writes into a list of values, those deep inside first, and into the room behind them.
func spoilValues(l []api.Value) {
	for _, v := range l {
		spoilValues(v.Items)
	}
	all := l[:cap(l)]
	for i := range all {
		all[i] = api.Value{Kind: -99, Int: 99, Float: 99, Text: "spoilt"}
	}
}

func spoilTypes(l []api.Type) {
	for _, t := range l {
		spoilTypes(t.Of)
	}
	clear(l[:cap(l)])
}

func spoilSchema(s api.Schema) {
	for _, c := range s.Columns {
		spoilTypes(c.Type.Of)
		spoilValues(c.Default.Items)
	}
	clear(s.Columns[:cap(s.Columns)])
}

func spoilTold(l []api.Told) {
	for _, one := range l {
		spoilValues(one.Row.Values)
	}
	clear(l[:cap(l)])
}

// TestAsKeepsNothing: R4, R5: the schema and the names that are handed in to As stay, with the room behind each list; who writes over them later changes nothing of what is told.
func TestAsKeepsNothing(t *testing.T) {
	d, s := deep()
	for _, names := range [][]string{nil, {"d"}, {"l", "t"}, {"t", "d", "l"}} {
		plainly, _ := reader.As(d, s, names)
		want := toldText(plainly.All()...)
		given := roomy(s)
		asked := withRoom(names, "l", "none")
		before := opened(given)
		var readers []*reader.Reader
		for range 3 {
			r, e := reader.As(d, given, asked)
			if e != api.OK {
				t.Fatalf("As: %d", e)
			}
			readers = append(readers, r)
		}
		early := toldText(readers[0].All()...)
		first, _ := readers[1].Next()
		if all := asked[:cap(asked)]; opened(given) != before || !slices.Equal(asked, names) || all[len(names)] != "l" || all[len(names)+1] != "none" {
			t.Fatalf("what was handed in was changed")
		}
		spoilSchema(given)
		clear(asked[:cap(asked)])
		midst := toldText(append([]api.Told{first}, readers[1].All()...)...)
		if late := toldText(readers[2].All()...); early != want || midst != want || late != want {
			t.Fatalf("names %q: %s, %s, %s, want %s", names, brief(early), brief(midst), brief(late), brief(want))
		}
	}
}

// TestToldIsTheCallers: R4, R5: who writes over a row that was told, and over the room behind its lists, changes nothing of the rows that come, of the file, or of another reader.
func TestToldIsTheCallers(t *testing.T) {
	d, s := deep()
	before := state(d)
	for k, way := range ways(d, s) {
		want := way().All()
		r, other := way(), way()
		for i, one := range want {
			got, is := r.Next()
			if !is || toldText(got) != toldText(one) {
				t.Fatalf("way %d, row %d: %s, want %s", k, i, brief(toldText(got)), brief(toldText(one)))
			}
			spoilValues(got.Row.Values)
		}
		other.Next()
		text := toldText(want[1:]...)
		spoilTold(want)
		spoilTold(way().All())
		if got := other.All(); toldText(got...) != text || state(d) != before {
			t.Fatalf("way %d: %s, want %s", k, brief(toldText(got...)), brief(text))
		}
	}
}

// memory is each place of the lists that it was shown, with the room behind them.
type memory map[any]bool

// claim tells whether nothing of a list was shown ahead of it.
func claim[T any](m memory, l []T) bool {
	free := true
	all := l[:cap(l)]
	for i := range all {
		free = free && !m[&all[i]]
		m[&all[i]] = true
	}
	return free
}

func (m memory) values(l []api.Value) bool {
	free := claim(m, l)
	for _, v := range l {
		free = m.values(v.Items) && free
	}
	return free
}

func (m memory) told(l []api.Told) bool {
	free := claim(m, l)
	for _, one := range l {
		free = m.values(one.Row.Values) && free
	}
	return free
}

// TestNewMemory: R4: no two lists of what is told share any memory, none with what was handed in or with what another call told, nor the room behind them.
func TestNewMemory(t *testing.T) {
	d, s := deep()
	shown := memory{}
	for _, c := range s.Columns {
		shown.values(c.Default.Items)
	}
	claim(shown, s.Columns)
	for k, way := range ways(d, s) {
		for ahead := range 5 {
			r := way()
			for range ahead {
				if one, is := r.Next(); !is || !shown.values(one.Row.Values) {
					t.Fatalf("way %d: a row shares memory, or there is none: %v", k, is)
				}
			}
			if l := r.All(); len(l) == 0 || !shown.told(l) {
				t.Fatalf("way %d, behind %d rows: All shares memory, or tells %d rows", k, ahead, len(l))
			}
		}
	}
	if len(shown) < 5000 {
		t.Fatalf("only %d places", len(shown))
	}
}

// TestClonesStay: R5: what is done to a file's clone is nothing to the reader of the file, nor the other way round.
func TestClonesStay(t *testing.T) {
	d, s := deep()
	for k, way := range ways(d, s) {
		want := toldText(way().All()...)
		r, c := way(), d.Clone()
		counted := c.Counted()
		c.Cut(20)
		if got := toldText(r.All()...); got != want || c.Counted() != counted {
			t.Fatalf("way %d: %s, want %s", k, brief(got), brief(want))
		}
	}
}

// TestOneAnswer: R5: the same bytes, the same rows, however they came there, and whatever was read ahead of it.
func TestOneAnswer(t *testing.T) {
	d, s := deep()
	other, _ := dev.New(api.MaxQuota)
	for piece := range slices.Chunk(d.All(), 7) {
		other.Write(piece)
		reader.Raw(other).All()
	}
	first, second := ways(d, s), ways(other, s)
	for k := range first {
		one, two := first[k]().All(), second[k]().All()
		if toldText(one...) != toldText(two...) {
			t.Fatalf("way %d: %s and %s", k, brief(toldText(one...)), brief(toldText(two...)))
		}
	}
}
