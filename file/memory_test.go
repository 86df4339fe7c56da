package file_test

import (
	"bytes"
	"math"
	"slices"
	"strconv"
	"testing"

	"gabion/api"
	"gabion/file"
)

// deepSteps are rows with lists within lists, of schemas with defaults of all depths.
func deepSteps() ([]step, api.Schema) {
	s := of(plain("l", listOf(optOf(listOf(ofInt)))), plain("t", ofText), with("f", ofFloat, bits(0xfff8000000000001)), with("d", listOf(optOf(listOf(ofFloat))), list(opt(list(bits(0x7ff0000000000001))), opt(list()))))
	other := of(plain("t", ofBytes), with("l", listOf(optOf(listOf(ofInt))), list()))
	var steps []step
	for range 3 {
		steps = append(steps, step{s, []api.Row{
			values(list(opt(list(number(1), number(2))), opt(), opt(list())), text("x"), bits(0xfff8000000000bad), list(opt(list(bits(1<<63), bits(0xffffffffffffffff))), opt())),
			values(list(opt(list(number(3)))), text("y"), float(1), list()),
			values(list(), text(""), bits(theNaN), list(opt())),
		}}, step{other, []api.Row{values(rawBytes("z"), list(opt(list(number(7))))), values(rawBytes(""), list(opt()))}})
	}
	under := of(
		with("l", listOf(optOf(listOf(ofFloat))), list(opt(list(bits(0x7ff0000000000001))))),
		with("e", listOf(optOf(listOf(ofFloat))), list(opt(list(bits(0xfff8000000000001), bits(1<<63))), opt())),
		with("t", ofBytes, rawBytes("z")),
	)
	return steps, under
}

// deepFile is a file of these.
func deepFile(t *testing.T) (*file.File, api.Schema) {
	t.Helper()
	steps, under := deepSteps()
	return closed(t, written(t, steps...)), under
}

// withRoom is a list with room behind it, in which something stands that is not the list's.
func withRoom[T any](l []T, room ...T) []T {
	all := slices.Concat(l, room)
	return all[:len(l)]
}

func roomyValue(v api.Value) api.Value {
	var items []api.Value
	for _, item := range v.Items {
		items = append(items, roomyValue(item))
	}
	v.Items = withRoom(items, bits(0xfff8000000000bad), text("room"))
	return v
}

func roomyType(t api.Type) api.Type {
	var inner []api.Type
	for _, one := range t.Of {
		inner = append(inner, roomyType(one))
	}
	t.Of = withRoom(inner, kind(77), kind(78))
	return t
}

// roomySchema and roomyRows have memory of their own, and room behind each of their lists.
func roomySchema(s api.Schema) api.Schema {
	var columns []api.Column
	for _, c := range s.Columns {
		columns = append(columns, api.Column{Name: c.Name, Type: roomyType(c.Type), Has: c.Has, Default: roomyValue(c.Default)})
	}
	return api.Schema{Columns: withRoom(columns, plain("room", kind(79)), plain("z", ofInt))}
}

func roomyRows(l []api.Row) []api.Row {
	var all []api.Row
	for _, r := range l {
		all = append(all, values(withRoom(roomyValue(list(r.Values...)).Items, number(-7), text("room"))...))
	}
	return withRoom(all, api.Row{}, values(number(9)))
}

// openedValue, openedType, openedSchema, openedRows tell all that stands in lists, with the room behind them; NaNs to the bit.
func openedValue(b []byte, v api.Value) []byte {
	items := v.Items
	v.Items = nil
	b = showValue(append(strconv.AppendUint(append(b, '#'), math.Float64bits(v.Float), 16), '{'), v)
	for _, item := range items[:cap(items)] {
		b = openedValue(b, item)
	}
	return append(b, '}')
}

func openedType(b []byte, t api.Type) []byte {
	b = showNumbers(append(b, '<'), int64(t.Kind))
	for _, inner := range t.Of[:cap(t.Of)] {
		b = openedType(b, inner)
	}
	return append(b, '>')
}

func openedSchema(s api.Schema) string {
	var b []byte
	for _, c := range s.Columns[:cap(s.Columns)] {
		b = openedType(append(append(b, ' '), c.Name...), c.Type)
		b = openedValue(b, c.Default)
	}
	return string(b)
}

func openedRows(l []api.Row) string {
	var b []byte
	for _, r := range l[:cap(l)] {
		b = append(b, '(')
		for _, v := range r.Values[:cap(r.Values)] {
			b = openedValue(b, v)
		}
		b = append(b, ')')
	}
	return string(b)
}

// spoilValues, spoilSchema, spoilRows, spoilTold, spoilBatches write into all lists, those deep inside first, and into the room behind them.
func spoilValues(l []api.Value) {
	for _, v := range l {
		spoilValues(v.Items)
	}
	all := l[:cap(l)]
	for i := range all {
		all[i] = api.Value{Kind: -99, Int: 99, Float: 99, Text: "spoilt"}
	}
}

func spoilTypes(l []api.Type) {
	for _, t := range l {
		spoilTypes(t.Of)
	}
	clear(l[:cap(l)])
}

func spoilSchema(s api.Schema) {
	for _, c := range s.Columns {
		spoilTypes(c.Type.Of)
		spoilValues(c.Default.Items)
	}
	clear(s.Columns[:cap(s.Columns)])
}

func spoilRows(l []api.Row) {
	for _, r := range l {
		spoilValues(r.Values)
	}
	clear(l[:cap(l)])
}

func spoilTold(l []api.Told) {
	for _, one := range l {
		spoilValues(one.Row.Values)
	}
	clear(l[:cap(l)])
}

func spoilBatches(l []api.Batch) {
	for _, one := range l {
		spoilRows(one.Rows)
	}
	clear(l[:cap(l)])
}

// lendSchema and lendRows hand something in with room behind its lists, ask that it stays as it was, and write over it at once behind the call.
func lendSchema(t *testing.T, s api.Schema, call func(s api.Schema) api.Errno, want api.Errno) {
	t.Helper()
	given := roomySchema(s)
	was := openedSchema(given)
	must(t, "a call with a schema", call(given), want)
	if openedSchema(given) != was {
		t.Fatalf("a schema that was handed in was changed: %s", brief(was))
	}
	spoilSchema(given)
}

func lendRows(t *testing.T, l []api.Row, call func(l []api.Row) api.Errno, want api.Errno) {
	t.Helper()
	given := roomyRows(l)
	was := openedRows(given)
	must(t, "a call with rows", call(given), want)
	if openedRows(given) != was {
		t.Fatalf("rows that were handed in were changed: %s", brief(was))
	}
	spoilRows(given)
}

// TestKeepsNothing: R4: schemas and rows that are handed in stay, and the room behind each list; who writes over them behind the call changes nothing: the file is that of one whose caller keeps all as it was.
func TestKeepsNothing(t *testing.T) {
	deep, _ := deepSteps()
	steps := slices.Concat(deep, script(), deep)
	f, same := newFile(maxQuota), newFile(maxQuota)
	lendSchema(t, wide(17), f.Open, api.ErrMany)
	lendSchema(t, deep[0].s, f.Open, api.OK)
	must(t, "Open", same.Open(deep[0].s), api.OK)
	lendSchema(t, deep[0].s, f.Open, api.ErrState)
	for k, one := range steps {
		if k > 0 {
			lendSchema(t, one.s, f.Change, api.OK)
			must(t, "Change", same.Change(one.s), api.OK)
			lendSchema(t, wide(17), f.Change, api.ErrMany)
		}
		for range 10 { // a schema frame is due again
			lendRows(t, one.l, f.Append, api.OK)
			must(t, "Append", same.Append(one.l), api.OK)
		}
		lendRows(t, append(slices.Clone(one.l), api.Row{}), f.Append, same.Append(append(slices.Clone(one.l), api.Row{})))
		if !bytes.Equal(f.Bytes(), same.Bytes()) {
			t.Fatalf("step %d: the file is another one", k)
		}
	}
}

// TestAsKeepsNothing: R4: the schema and the names that As is given stay, and the room behind each list; who writes over them later changes nothing of what was told.
func TestAsKeepsNothing(t *testing.T) {
	f, under := deepFile(t)
	for _, names := range [][]string{nil, {"e"}, {"l", "t"}, {"t", "e", "l"}} {
		want, _ := f.As(under, names)
		asked := withRoom(names, "l", "none")
		var got []api.Told
		lendSchema(t, under, func(s api.Schema) (e api.Errno) {
			got, e = f.As(s, asked)
			return e
		}, api.OK)
		if all := asked[:cap(asked)]; !slices.Equal(asked, names) || all[len(names)] != "l" || all[len(names)+1] != "none" {
			t.Fatalf("the names were changed: %q", all)
		}
		clear(asked[:cap(asked)])
		mustTell(t, "As", got, api.OK, want, api.OK)
	}
}

// TestTailKeepsNothing: R4: the bytes that Tail is given stay, and the room behind them; who writes over them later changes nothing.
func TestTailKeepsNothing(t *testing.T) {
	whole := written(t, shortScript()...).Bytes()
	given := withRoom(whole, 1, 2, 3)
	f := newFile(plenty)
	must(t, "Tail", f.Tail(given), api.OK)
	must(t, "Damage", f.Damage(2, 200), api.OK)
	must(t, "Damage", f.Damage(2, whole[2]), api.OK)
	if !bytes.Equal(given[:cap(given)][:len(whole)+3], join(whole, []byte{1, 2, 3})) {
		t.Fatalf("what was handed in was changed")
	}
	clear(given[:cap(given)])
	if !bytes.Equal(f.Bytes(), whole) {
		t.Fatalf("what was handed in was kept")
	}
	must(t, "Tail", f.Tail(row(5, 4)), api.OK)
	if bytes.Contains(given[:cap(given)], []byte{5}) {
		t.Fatalf("the room behind what was handed in was written to")
	}
}

// TestToldIsTheCallers: R4, R5: who writes over what was told, and over the room behind it, changes nothing of the file, nor of what is told later, or was told ahead of it.
func TestToldIsTheCallers(t *testing.T) {
	f, under := deepFile(t)
	open := f.Clone()
	must(t, "Open", open.Open(under), api.OK)
	for _, f := range []*file.File{f, open} {
		whole := f.Bytes()
		calls := []func() []api.Told{
			func() []api.Told { l, _ := f.Rows(); return l },
			func() []api.Told { l, _ := f.As(under, nil); return l },
			func() []api.Told { l, _ := f.As(under, []string{"e", "l"}); return l },
			func() []api.Told { l, _ := f.From(0); return l },
			func() []api.Told { l, _ := f.From(4); return l },
		}
		for k, call := range calls {
			first := call()
			kept := toldText(first...)
			spoilTold(call())
			if second := call(); toldText(second...) != kept || toldText(first...) != kept || len(first) < 10 {
				t.Fatalf("call %d: %d rows, or others", k, len(second))
			}
		}
		saved := batchText(f.Salvage()...)
		spoilBatches(f.Salvage())
		b := f.Bytes()
		clear(b[:cap(b)])
		if batchText(f.Salvage()...) != saved || !bytes.Equal(f.Bytes(), whole) {
			t.Fatalf("what was told is the file's still")
		}
	}
	mustClose(t, open, false)
	l, e := open.Rows()
	m, _ := f.Rows()
	mustTell(t, "Rows", l, e, m, api.OK)
}

// memory is each place of the lists that it was shown, with the room behind them.
type memory map[any]bool

// claim tells whether nothing of a list was shown ahead of it.
func claim[T any](m memory, l []T) bool {
	free := true
	all := l[:cap(l)]
	for i := range all {
		free = free && !m[&all[i]]
		m[&all[i]] = true
	}
	return free
}

func (m memory) values(l []api.Value) bool {
	free := claim(m, l)
	for _, v := range l {
		free = m.values(v.Items) && free
	}
	return free
}

func (m memory) told(l []api.Told) bool {
	free := claim(m, l)
	for _, one := range l {
		free = m.values(one.Row.Values) && free
	}
	return free
}

func (m memory) batches(l []api.Batch) bool {
	free := claim(m, l)
	for _, one := range l {
		free = claim(m, one.Rows) && free
		for _, r := range one.Rows {
			free = m.values(r.Values) && free
		}
	}
	return free
}

// TestNewMemory: R4: no two lists of what is told share any memory, none with what was handed in or with what another call told, nor the room behind them.
func TestNewMemory(t *testing.T) {
	f, under := deepFile(t)
	shown := memory{}
	claim(shown, under.Columns)
	for _, c := range under.Columns {
		shown.values(c.Default.Items)
	}
	mustBeNew := func(call string, l []api.Told, e api.Errno) {
		t.Helper()
		if e != api.OK || len(l) < 10 || !shown.told(l) {
			t.Fatalf("%s shares memory, or tells %d rows, %d", call, len(l), e)
		}
	}
	for range 3 {
		l, e := f.Rows()
		mustBeNew("Rows", l, e)
		l, e = f.As(under, nil)
		mustBeNew("As", l, e)
		l, e = f.As(under, []string{"e"})
		mustBeNew("As", l, e)
		l, e = f.From(1)
		mustBeNew("From", l, e)
		if !shown.batches(f.Salvage()) || !claim(shown, f.Bytes()) || !claim(shown, f.Clone().Bytes()) {
			t.Fatalf("Salvage or Bytes shares memory")
		}
	}
	if len(shown) < 3000 {
		t.Fatalf("only %d places", len(shown))
	}
}

// TestNaNs: R6: floats that are handed in are fixed, in rows, in defaults and in schemas: what is told has one NaN, and -0 stays.
func TestNaNs(t *testing.T) {
	f, under := deepFile(t)
	var look func(l []api.Value)
	nans, noughts := 0, 0
	look = func(l []api.Value) {
		for _, v := range l {
			if v.Float != v.Float {
				nans++
				if math.Float64bits(v.Float) != theNaN {
					t.Fatalf("another NaN: %x", math.Float64bits(v.Float))
				}
			}
			if math.Float64bits(v.Float) == 1<<63 {
				noughts++
			}
			look(v.Items)
		}
	}
	l, _ := f.Rows()
	m, _ := f.As(under, nil)
	n, _ := f.From(0)
	for _, one := range slices.Concat(l, m, n) {
		look(one.Row.Values)
	}
	for _, b := range f.Salvage() {
		for _, r := range b.Rows {
			look(r.Values)
		}
	}
	if nans < 30 || noughts < 20 {
		t.Fatalf("only %d NaNs, %d -0", nans, noughts)
	}
}

// TestOneAnswer: R5: of the same calls the bytes, and all that is told, are the same, however often they are made, and whatever is asked between them.
func TestOneAnswer(t *testing.T) {
	f, g := newFile(plenty), newFile(plenty)
	must(t, "Open", f.Open(ints), api.OK)
	must(t, "Open", g.Open(ints), api.OK)
	for _, one := range script() {
		must(t, "Change", f.Change(one.s), api.OK)
		must(t, "Append", f.Append(one.l), api.OK)
		must(t, "Change", g.Change(nested), api.OK)
		must(t, "Change", g.Change(one.s), api.OK)
		must(t, "Append", g.Append(nil), api.ErrEmpty)
		must(t, "Damage", g.Damage(0, 1), api.ErrState)
		g.Rows()
		g.From(3)
		g.Salvage()
		g.Clone().Close()
		must(t, "Append", g.Append(one.l), api.OK)
		if !bytes.Equal(f.Bytes(), g.Bytes()) {
			t.Fatalf("not the same bytes")
		}
	}
}
