package resolve_test

import (
	"strings"
	"testing"

	"gabion/api"
	"gabion/resolve"
)

// roomyValue is v with room behind each of its lists, in which a value stands that is not v's.
func roomyValue(v api.Value) api.Value {
	items := make([]api.Value, 0, len(v.Items)+3)
	for _, item := range v.Items {
		items = append(items, roomyValue(item))
	}
	copy(items[len(items):cap(items)], times(3, nan(0xfff8000000000bad)))
	v.Items = items
	return v
}

func roomyType(t api.Type) api.Type {
	inner := make([]api.Type, 0, len(t.Of)+2)
	for _, one := range t.Of {
		inner = append(inner, roomyType(one))
	}
	copy(inner[len(inner):cap(inner)], []api.Type{kind(77), kind(78)})
	t.Of = inner
	return t
}

func roomySchema(s api.Schema) api.Schema {
	columns := make([]api.Column, 0, len(s.Columns)+2)
	for _, c := range s.Columns {
		columns = append(columns, api.Column{Name: c.Name, Type: roomyType(c.Type), Has: c.Has, Default: roomyValue(c.Default)})
	}
	copy(columns[len(columns):cap(columns)], []api.Column{plain("room", kind(79)), plain("a", ofInt)})
	return api.Schema{Columns: columns}
}

// roomy has room behind each of its lists.
func roomy(one reading) reading {
	return reading{roomySchema(one.from), roomySchema(one.to), api.Row{Values: roomyValue(list(one.r.Values...)).Items}}
}

// opened tells all that stands in the lists, with the room behind them.
func opened(one reading) string {
	var b strings.Builder
	for _, s := range []api.Schema{one.from, one.to} {
		for _, c := range s.Columns[:cap(s.Columns)] {
			b.WriteString(c.Name + " " + shown(openedType(c.Type)) + exact(openedValue(c.Default)))
			if c.Has {
				b.WriteByte('+')
			}
		}
	}
	for _, v := range one.r.Values[:cap(one.r.Values)] {
		b.WriteString(exact(openedValue(v)))
	}
	return b.String()
}

func openedType(t api.Type) api.Type {
	all := kind(t.Kind)
	for _, inner := range t.Of[:cap(t.Of)] {
		all.Of = append(all.Of, openedType(inner))
	}
	return all
}

func openedValue(v api.Value) api.Value {
	all := v
	all.Items = nil
	for _, item := range v.Items[:cap(v.Items)] {
		all.Items = append(all.Items, openedValue(item))
	}
	return all
}

// TestArgumentStays: R4, R5: what is handed in stays, with the room behind each list; nothing of that room counts; a second call answers the same.
func TestArgumentStays(t *testing.T) {
	for _, one := range manyReadings()[:2000] {
		given := roomy(one)
		before := opened(given)
		names := []string{"c1", "c0", "room", "c2"}
		for range 2 {
			if e := asRow(t, given); e != asRow(t, one) {
				t.Fatalf("the room counts: %.300s", before)
			}
			sameCheck(t, given.from, given.to, wordCheck(one.from, one.to))
			for n := range 5 {
				_, e := wordProject(one.from, names[:n])
				sameProject(t, given.from, names[:n], e)
			}
			for i, c := range given.from.Columns {
				if i < len(given.r.Values) && i < len(given.to.Columns) {
					asValue(t, c.Type, given.to.Columns[i].Type, given.r.Values[i])
				}
			}
		}
		if opened(given) != before || strings.Join(names, " ") != "c1 c0 room c2" {
			t.Fatalf("what was handed in was changed: %.300s", before)
		}
	}
}

// memory is each place of the lists that it was shown, with the room behind them.
type memory map[any]bool

// claim tells whether nothing of a list was shown ahead of it.
func claim[T any](m memory, l []T) bool {
	free := true
	whole := l[:cap(l)]
	for i := range whole {
		free = free && !m[&whole[i]]
		m[&whole[i]] = true
	}
	return free
}

func (m memory) values(l []api.Value) bool {
	free := claim(m, l)
	for _, v := range l {
		free = m.values(v.Items) && free
	}
	return free
}

func (m memory) types(l []api.Type) bool {
	free := claim(m, l)
	for _, t := range l {
		free = m.types(t.Of) && free
	}
	return free
}

func (m memory) schema(s api.Schema) bool {
	free := claim(m, s.Columns)
	for _, c := range s.Columns {
		free = m.types(c.Type.Of) && free
		free = m.values(c.Default.Items) && free
	}
	return free
}

// sharing has its lists twice: whatever is alike in it is one memory.
func sharing() reading {
	deep, v := listOf(listOf(optOf(ofFloat))), list(opt(float(1)), opt(), opt(nan(nanBits[3])))
	all := list(v, v, list())
	from := of(plain("a", deep), with("b", deep, all), with("c", deep, all), plain("d", optOf(ofInt)), plain("e", listOf(ofText)))
	to := of(plain("b", deep), with("x", deep, all), plain("a", deep), with("y", deep, all), plain("c", deep), plain("d", optOf(optOf(ofInt))), plain("e", listOf(ofBytes)))
	return reading{from, to, values(all, all, all, opt(number(1)), list(text("a"), text("a")))}
}

// TestNewMemory: R4: no two lists of an answer share any memory, none with an argument, nor the room behind them.
func TestNewMemory(t *testing.T) {
	lists := 0
	for _, one := range append(rightReadings(), sharing()) {
		given := memory{}
		given.schema(one.from)
		given.schema(one.to)
		given.values(one.r.Values)
		before := len(given)
		told, e := resolve.Row(one.from, one.to, one.r)
		if e != api.OK || !given.values(told.Values) {
			t.Fatalf("Row(%s; %s; %s) shares memory, or tells %d", columns(one.from, exact), columns(one.to, exact), exact(one.r.Values...), e)
		}
		lists += len(given) - before
		var names []string
		for _, c := range one.from.Columns {
			names = append(names, c.Name)
		}
		claim(given, names)
		if s := sameProject(t, one.from, names, api.OK); !given.schema(s) {
			t.Fatalf("Project(%s) shares memory", columns(one.from, exact))
		}
		for i, c := range one.from.Columns {
			for _, to := range []api.Type{c.Type, optOf(c.Type)} {
				if v, _ := resolve.Value(c.Type, to, one.r.Values[i]); !given.values(v.Items) {
					t.Fatalf("Value(%s, %s, %s) shares memory", shown(c.Type), shown(to), exact(one.r.Values[i]))
				}
			}
		}
	}
	if lists < 5000 {
		t.Fatalf("only %d places", lists)
	}
}

// spoil writes into a list of values, those deep inside first, and into the room behind them.
func spoil(l []api.Value) {
	for _, v := range l {
		spoil(v.Items)
	}
	whole := l[:cap(l)]
	for i := range whole {
		whole[i] = api.Value{Kind: -99, Int: 99, Float: 99, Text: "spoilt"}
	}
}

// TestAnswersAreTheCallers: R4: who writes into what was handed in, or into what was told, changes no other.
func TestAnswersAreTheCallers(t *testing.T) {
	given := sharing()
	row, _ := resolve.Row(given.from, given.to, given.r)
	other, _ := resolve.Row(given.from, given.to, given.r)
	s, _ := resolve.Project(given.from, []string{"c", "b"})
	v, _ := resolve.Value(given.from.Columns[0].Type, given.from.Columns[0].Type, given.r.Values[0])
	fresh := sharing()
	want, _ := wordRow(fresh.from, fresh.to, fresh.r)
	spoil(other.Values)
	before := opened(given)
	if before != opened(fresh) {
		t.Fatal("an answer shares memory with what was handed in")
	}
	spoil(given.r.Values)
	for _, c := range append(given.from.Columns, given.to.Columns...) {
		spoil(c.Default.Items)
		c.Type.Of[0] = kind(99)
	}
	clear(given.from.Columns)
	clear(given.to.Columns)
	if exact(row.Values...) != exact(want.Values...) || exact(v) != fixed(fresh.r.Values[0]) {
		t.Fatalf("Row or Value shares memory: %s, %s", exact(row.Values...), exact(v))
	}
	if columns(s, exact) != columns(of(fresh.from.Columns[2], fresh.from.Columns[1]), fixed) {
		t.Fatalf("Project shares memory: %s", columns(s, exact))
	}
}
