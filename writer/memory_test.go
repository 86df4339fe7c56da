package writer_test

import (
	"slices"
	"testing"

	"gabion/api"
	"gabion/dev"
	"gabion/writer"
)

// withRoom is a list with room behind it, in which something stands that is not the list's.
func withRoom[T any](l []T, room ...T) []T {
	all := slices.Concat(l, room)
	return all[:len(l)]
}

func roomyValue(v api.Value) api.Value {
	var items []api.Value
	for _, item := range v.Items {
		items = append(items, roomyValue(item))
	}
	v.Items = withRoom(items, bits(0xfff8000000000bad), text("room"))
	return v
}

func roomyType(t api.Type) api.Type {
	var inner []api.Type
	for _, one := range t.Of {
		inner = append(inner, roomyType(one))
	}
	t.Of = withRoom(inner, kind(77), kind(78))
	return t
}

// roomySchema and roomyRows have memory of their own, and room behind each of their lists.
func roomySchema(s api.Schema) api.Schema {
	var columns []api.Column
	for _, c := range s.Columns {
		columns = append(columns, api.Column{Name: c.Name, Type: roomyType(c.Type), Has: c.Has, Default: roomyValue(c.Default)})
	}
	return api.Schema{Columns: withRoom(columns, plain("room", kind(79)), plain("z", ofInt))}
}

func roomyRows(l []api.Row) []api.Row {
	var all []api.Row
	for _, r := range l {
		all = append(all, values(withRoom(roomyValue(list(r.Values...)).Items, number(-7), text("room"))...))
	}
	return withRoom(all, api.Row{}, values(number(9)))
}

// openedValue, openedType, openedSchema, openedRows tell all that stands in lists, with the room behind them; NaNs to the bit.
func openedValue(b []byte, v api.Value) []byte {
	items := v.Items
	v.Items = nil
	b = showValue(append(showBits(b, v.Float), '{'), v)
	for _, item := range items[:cap(items)] {
		b = openedValue(b, item)
	}
	return append(b, '}')
}

func openedType(b []byte, t api.Type) []byte {
	b = showNumbers(append(b, '<'), int64(t.Kind))
	for _, inner := range t.Of[:cap(t.Of)] {
		b = openedType(b, inner)
	}
	return append(b, '>')
}

func openedSchema(s api.Schema) string {
	var b []byte
	for _, c := range s.Columns[:cap(s.Columns)] {
		b = openedType(append(append(b, ' '), c.Name...), c.Type)
		b = openedValue(b, c.Default)
	}
	return string(b)
}

func openedRows(l []api.Row) string {
	var b []byte
	for _, r := range l[:cap(l)] {
		b = append(b, '(')
		for _, v := range r.Values[:cap(r.Values)] {
			b = openedValue(b, v)
		}
		b = append(b, ')')
	}
	return string(b)
}

// spoilValues, spoilSchema, spoilRows write into all lists, those deep inside first, and into the room behind them.
func spoilValues(l []api.Value) {
	for _, v := range l {
		spoilValues(v.Items)
	}
	all := l[:cap(l)]
	for i := range all {
		all[i] = api.Value{Kind: -99, Int: 99, Float: 99, Text: "spoilt"}
	}
}

func spoilTypes(l []api.Type) {
	for _, t := range l {
		spoilTypes(t.Of)
	}
	clear(l[:cap(l)])
}

func spoilSchema(s api.Schema) {
	for _, c := range s.Columns {
		spoilTypes(c.Type.Of)
		spoilValues(c.Default.Items)
	}
	clear(s.Columns[:cap(s.Columns)])
}

func spoilRows(l []api.Row) {
	for _, r := range l {
		spoilValues(r.Values)
	}
	clear(l[:cap(l)])
}

// lender hands in schemas and rows with room behind their lists, asks that they stay as they were, and writes over them at once behind the call.
type lender struct {
	t *testing.T
	w *writer.Writer
}

func (p *lender) schema(s api.Schema, call func(s api.Schema)) {
	p.t.Helper()
	given := roomySchema(s)
	was := openedSchema(given)
	call(given)
	if openedSchema(given) != was {
		p.t.Fatalf("a schema that was handed in was changed: %s", brief(was))
	}
	spoilSchema(given)
}

func (p *lender) rows(l []api.Row, call func(l []api.Row)) {
	p.t.Helper()
	given := roomyRows(l)
	was := openedRows(given)
	call(given)
	if openedRows(given) != was {
		p.t.Fatalf("rows that were handed in were changed: %s", brief(was))
	}
	spoilRows(given)
}

// TestKeepsNothing: R4: what is handed in stays, and the room behind each list; who writes over it later changes nothing: the file is that of another writer, whose caller keeps all as it was.
func TestKeepsNothing(t *testing.T) {
	deep := of(with("f", ofFloat, bits(0xfff8000000000001)), with("l", listOf(optOf(listOf(ofFloat))), list(opt(list(bits(0x7ff0000000000001))), opt(list()))))
	steps := append(script(), step{deep, []api.Row{values(bits(0xfff8000000000bad), list(opt(list(bits(1<<63), bits(0xffffffffffffffff))), opt()))}}, step{deep, []api.Row{values(bits(1), list())}})
	p := empty(t, deep)
	d, _ := dev.New(plenty)
	l := &lender{t: t}
	var w *writer.Writer
	l.schema(deep, func(s api.Schema) { w, _ = writer.Open(d, s) })
	for k, one := range append(slices.Clone(steps[len(steps)-1:]), steps...) {
		p.Change(one.s, api.OK)
		l.schema(one.s, func(s api.Schema) { w.Change(s) })
		l.schema(wide(17), func(s api.Schema) { w.Change(s) })
		if w.Number() != p.w.Number() {
			t.Fatalf("step %d: Number %d, want %d", k, w.Number(), p.w.Number())
		}
		l.rows(one.l, func(l []api.Row) { w.Need(l) })
		l.rows(append(slices.Clone(one.l), api.Row{}), func(l []api.Row) { w.Append(l) })
		p.Append(one.l, api.OK)
		l.rows(one.l, func(l []api.Row) {
			if e := w.Append(l); e != api.OK {
				t.Fatalf("step %d: %d", k, e)
			}
		})
		if state(d) != state(p.d) {
			t.Fatalf("step %d: the file is another one", k)
		}
	}
	p.mustRead()
}

// TestKeepsNothingOfOpen: R4: likewise of the schema alone that it was opened under, which is written again and again.
func TestKeepsNothingOfOpen(t *testing.T) {
	for _, s := range []api.Schema{floats, nested, wide(16), two, longSchema(1024)} {
		p := empty(t, s)
		d, _ := dev.New(plenty)
		l := &lender{t: t}
		var w *writer.Writer
		l.schema(s, func(s api.Schema) { w, _ = writer.Open(d, s) })
		for range 20 {
			p.Append([]api.Row{someRow(s)}, api.OK)
			if e := w.Append([]api.Row{someRow(s)}); e != api.OK || state(d) != state(p.d) || w.Number() != 0 {
				t.Fatalf("%d, Number %d, or another file", e, w.Number())
			}
		}
	}
}

// TestSameBytes: P19.6, R5: of the same calls the bytes are the same, however often they are made, and whatever other writers do between them; also where Need, refused calls, Change and back again stand between.
func TestSameBytes(t *testing.T) {
	p, q, r := empty(t, ints), empty(t, ints), empty(t, ints)
	for k, one := range script() {
		for _, x := range []*twins{p, q, r} {
			x.do(one)
		}
		r.Change(nested, api.OK)
		r.Change(api.Schema{}, api.ErrEmpty)
		r.Append(nil, api.ErrEmpty)
		r.Need(nil, api.ErrEmpty)
		r.Change(one.s, api.OK)
		r.Need(one.l, api.OK)
		if state(p.d) != state(q.d) || state(p.d) != state(r.d) {
			t.Fatalf("step %d: not the same bytes", k)
		}
	}
}

// TestClonesStay: R5: what is done to a clone of the file is nothing to the writer of the file.
func TestClonesStay(t *testing.T) {
	p := empty(t, ints)
	for _, one := range script() {
		p.do(one)
		c := p.d.Clone()
		c.Cut(3)
		takeDown(c)
		p.stands()
	}
	p.Close(true, api.OK)
	p.mustRead()
}
