package text_test

import (
	"testing"
	"unsafe"

	"gabion/api"
)

// roomyValues are values with room behind each of their lists, in which values stand that are not theirs.
func roomyValues(l []api.Value) []api.Value {
	room := make([]api.Value, 0, len(l)+3)
	for _, v := range l {
		v.Items = roomyValues(v.Items)
		room = append(room, v)
	}
	copy(room[len(room):cap(room)], times(3, nan(0xfff8000000000bad)))
	return room
}

func roomyTypes(l []api.Type) []api.Type {
	room := make([]api.Type, 0, len(l)+2)
	for _, t := range l {
		t.Of = roomyTypes(t.Of)
		room = append(room, t)
	}
	copy(room[len(room):cap(room)], []api.Type{kind(77), kind(78)})
	return room
}

func roomyColumns(l []api.Column) []api.Column {
	room := make([]api.Column, 0, len(l)+2)
	for _, c := range l {
		c.Type.Of = roomyTypes(c.Type.Of)
		c.Default.Items = roomyValues(c.Default.Items)
		room = append(room, c)
	}
	copy(room[len(room):cap(room)], []api.Column{plain("room", kind(79)), plain("a", ofInt)})
	return room
}

// roomy is x with room behind each of its lists.
func roomy(x any) any {
	switch x := x.(type) {
	case api.Type:
		return roomyTypes([]api.Type{x})[0]
	case api.Value:
		return roomyValues([]api.Value{x})[0]
	case api.Row:
		return api.Row{Values: roomyValues(x.Values)}
	}
	return api.Schema{Columns: roomyColumns(x.(api.Schema).Columns)}
}

// opened is x with what stands in the room behind each of its lists.
func opened(x any) any {
	switch x := x.(type) {
	case api.Type:
		all := kind(x.Kind)
		for _, t := range x.Of[:cap(x.Of)] {
			all.Of = append(all.Of, opened(t).(api.Type))
		}
		return all
	case api.Value:
		all := x
		all.Items = opened(values(x.Items...)).(api.Row).Values
		return all
	case api.Row:
		all := api.Row{}
		for _, v := range x.Values[:cap(x.Values)] {
			all.Values = append(all.Values, opened(v).(api.Value))
		}
		return all
	}
	all := x.(api.Schema)
	columns := all.Columns
	all.Columns = nil
	for _, c := range columns[:cap(columns)] {
		c.Type, c.Default = opened(c.Type).(api.Type), opened(c.Default).(api.Value)
		all.Columns = append(all.Columns, c)
	}
	return all
}

// TestArgumentStays: R4, R5: what is printed stays, with the room behind each list; nothing of that room counts; a second call answers the same.
func TestArgumentStays(t *testing.T) {
	for _, x := range many(2000) {
		want, wantE := doPrint(x)
		given := roomy(x)
		before := exact(opened(given))
		for range 2 {
			if s, e := doPrint(given); s != want || e != wantE {
				t.Fatalf("Print(%.300s), with room: %.300q, %d, want %.300q, %d", exact(x), s, e, want, wantE)
			}
		}
		if exact(opened(given)) != before {
			t.Fatalf("what was handed in was changed: %.300s", before)
		}
	}
}

// memory is each place of the lists that it was shown, with the room behind them.
type memory map[any]bool

// claim tells whether nothing of a list was shown ahead of it.
func claim[T any](m memory, l []T) bool {
	free := true
	whole := l[:cap(l)]
	for i := range whole {
		free = free && !m[&whole[i]]
		m[&whole[i]] = true
	}
	return free
}

func (m memory) values(l []api.Value) bool {
	free := claim(m, l)
	for _, v := range l {
		free = m.values(v.Items) && free
	}
	return free
}

func (m memory) types(l []api.Type) bool {
	free := claim(m, l)
	for _, t := range l {
		free = m.types(t.Of) && free
	}
	return free
}

// all tells whether no two lists of x, nor one of x and one that was shown ahead of it, share memory.
func (m memory) all(x any) bool {
	switch x := x.(type) {
	case api.Type:
		return m.types(x.Of)
	case api.Value:
		return m.values(x.Items)
	case api.Row:
		return m.values(x.Values)
	}
	columns := x.(api.Schema).Columns
	free := claim(m, columns)
	for _, c := range columns {
		free = m.types(c.Type.Of) && free
		free = m.values(c.Default.Items) && free
	}
	return free
}

// TestAnswersAreTheCallers: R4: no two lists that are told share memory, of one answer or of two; who writes into one changes no other.
func TestAnswersAreTheCallers(t *testing.T) {
	for what, l := range rightTexts() {
		for _, s := range append(l, twins[what]...) {
			first, e, _ := doParse(what, s)
			second, _, _ := doParse(what, s)
			before := exact(second)
			m := memory{}
			if e != api.OK || !m.all(first) || !m.all(second) {
				t.Fatalf("Parse of the %s %q: %d, or lists share memory", what, s, e)
			}
			spoil(first)
			third, _, _ := doParse(what, s)
			if exact(second) != before || exact(third) != before {
				t.Fatalf("Parse of the %s %q: who writes into an answer changes another one", what, s)
			}
		}
	}
}

// twins are texts that have like parts.
var twins = map[string][]string{
	"type":   {"list(list(list(int)))", "opt(opt(opt(int)))"},
	"schema": {"a list(int) = [1, 2], b list(int) = [1, 2], c list(int) = [1, 2]", "a opt(opt(opt(int))), b opt(opt(opt(int))) = some(some(some(1)))"},
	"value":  {"[[1, 2], [1, 2], [1, 2], [1, 2], [1, 2]]", "[[], [], []]", "[some(1), some(1), some([1]), some([1])]", "[[[[]], [[]]], [[[]], [[]]]]"},
	"row":    {"[1, 2], [1, 2], [1, 2]", "[], [], some([]), some([])", "[[1, 2], [1, 2]], [[1, 2], [1, 2]]"},
}

// spoil writes into all lists of x, those deep inside first, and into the room behind them.
func spoil(x any) {
	switch x := x.(type) {
	case api.Type:
		for i := range x.Of[:cap(x.Of)] {
			spoil(x.Of[:cap(x.Of)][i])
			x.Of[:cap(x.Of)][i] = kind(99)
		}
	case api.Value:
		spoil(values(x.Items...))
	case api.Row:
		for i := range x.Values[:cap(x.Values)] {
			spoil(x.Values[:cap(x.Values)][i])
			x.Values[:cap(x.Values)][i] = api.Value{Kind: 99, Text: "spoilt"}
		}
	case api.Schema:
		for i := range x.Columns[:cap(x.Columns)] {
			spoil(x.Columns[:cap(x.Columns)][i].Type)
			spoil(x.Columns[:cap(x.Columns)][i].Default)
			x.Columns[:cap(x.Columns)][i] = plain("spoilt", kind(99))
		}
	}
}

// TestTextsAreNew: R4: names and texts that are told are no pieces of the text that was handed in.
func TestTextsAreNew(t *testing.T) {
	s := `name text = "plain", other bytes = 'plain'`
	told, e, _ := doParse("schema", s)
	if e != api.OK {
		t.Fatalf("Parse of the schema %q: %d", s, e)
	}
	from := uintptr(unsafe.Pointer(unsafe.StringData(s)))
	for _, c := range told.(api.Schema).Columns {
		for _, piece := range []string{c.Name, c.Default.Text} {
			if at := uintptr(unsafe.Pointer(unsafe.StringData(piece))); at >= from && at < from+uintptr(len(s)) {
				t.Errorf("%q is a piece of what was handed in", piece)
			}
		}
	}
}
