package batch_test

import (
	"bytes"
	"slices"
	"testing"

	"gabion/api"
	"gabion/batch"
)

// roomyValue is v with room behind each of its lists, in which a value stands that is not v's.
func roomyValue(v api.Value) api.Value {
	items := make([]api.Value, 0, len(v.Items)+2)
	for _, item := range v.Items {
		items = append(items, roomyValue(item))
	}
	copy(items[len(items):cap(items)], times(2, nan(0xfff8000000000bad)))
	v.Items = items
	return v
}

func roomyType(t api.Type) api.Type {
	inner := make([]api.Type, 0, len(t.Of)+2)
	for _, one := range t.Of {
		inner = append(inner, roomyType(one))
	}
	copy(inner[len(inner):cap(inner)], []api.Type{kind(77), kind(78)})
	t.Of = inner
	return t
}

// roomy has room behind each of its lists.
func roomy(one group) group {
	s := make([]api.Column, 0, len(one.s.Columns)+2)
	for _, c := range one.s.Columns {
		s = append(s, api.Column{Name: c.Name, Type: roomyType(c.Type), Has: c.Has, Default: roomyValue(c.Default)})
	}
	copy(s[len(s):cap(s)], []api.Column{plain("room", kind(79)), plain("z", ofInt)})
	l := make([]api.Row, 0, len(one.l)+2)
	for _, r := range one.l {
		l = append(l, api.Row{Values: roomyValue(list(r.Values...)).Items})
	}
	copy(l[len(l):cap(l)], rows(number(1), text("room")))
	return group{of(s...), l}
}

func openedValue(v api.Value) api.Value {
	all := v
	all.Items = nil
	for _, item := range v.Items[:cap(v.Items)] {
		all.Items = append(all.Items, openedValue(item))
	}
	return all
}

func openedType(t api.Type) api.Type {
	all := kind(t.Kind)
	for _, inner := range t.Of[:cap(t.Of)] {
		all.Of = append(all.Of, openedType(inner))
	}
	return all
}

// opened tells all that stands in the lists, with the room behind them.
func opened(one group) string {
	var s api.Schema
	for _, c := range one.s.Columns[:cap(one.s.Columns)] {
		c.Type, c.Default = openedType(c.Type), openedValue(c.Default)
		s.Columns = append(s.Columns, c)
	}
	var l []api.Row
	for _, r := range one.l[:cap(one.l)] {
		l = append(l, values(openedValue(list(r.Values...)).Items...))
	}
	return columns(s) + exact(l)
}

// fences is b within a larger list, with room ahead of it and behind, and that list.
func fences(b []byte) (within, whole []byte) {
	whole = slices.Concat(bytes.Repeat([]byte{1}, 20), b, bytes.Repeat([]byte{1}, 100))
	return whole[20 : 20+len(b)], whole
}

// TestArgumentStays: R4, R5: what is handed in stays, with the room behind each list; nothing of that room counts; a second call answers the same.
func TestArgumentStays(t *testing.T) {
	for k, one := range append(manyGroups()[:1500], unlikeRows()...) {
		given := roomy(one)
		before := opened(given)
		p, e := batch.Pack(one.s, one.l)
		b := p
		if e != api.OK {
			b = mixedBytes(uint64(k), k%50)
			if len(b) > 0 {
				b[0] %= 3
			}
		}
		within, whole := fences(b)
		kept := slices.Clone(whole)
		for range 2 {
			samePack(t, given.s, given.l, e)
			if q, _ := batch.Pack(given.s, given.l); !bytes.Equal(p, q) {
				t.Fatalf("the room counts: %.300s", before)
			}
			for _, n := range []int{len(one.l), len(one.l) + 1, 1, 0, 65} {
				_, want := wordUnpack(one.s, b, n)
				sameUnpack(t, given.s, within, n, want)
			}
		}
		if opened(given) != before || !bytes.Equal(whole, kept) {
			t.Fatalf("what was handed in was changed: %.300s", before)
		}
	}
}

// memory is each place of the lists that it was shown, with the room behind them.
type memory map[any]bool

// claim tells whether nothing of a list was shown ahead of it.
func claim[T any](m memory, l []T) bool {
	free := true
	whole := l[:cap(l)]
	for i := range whole {
		free = free && !m[&whole[i]]
		m[&whole[i]] = true
	}
	return free
}

func (m memory) values(l []api.Value) bool {
	free := claim(m, l)
	for _, v := range l {
		free = m.values(v.Items) && free
	}
	return free
}

func (m memory) rows(l []api.Row) bool {
	free := claim(m, l)
	for _, r := range l {
		free = m.values(r.Values) && free
	}
	return free
}

func (m memory) schema(s api.Schema) {
	claim(m, s.Columns)
	for _, c := range s.Columns {
		m.values(c.Default.Items)
	}
}

// TestNewMemory: R4: no two lists of an answer share any memory, none with an argument or another answer, nor the room behind them.
func TestNewMemory(t *testing.T) {
	places := 0
	for _, one := range append(rightGroups()[:600], unlikeRows()...) {
		given := memory{}
		given.schema(one.s)
		given.rows(one.l)
		first, _ := batch.Pack(one.s, one.l)
		second, _ := batch.Pack(one.s, one.l)
		if !claim(given, first) || !claim(given, second) {
			t.Fatalf("Pack(%s) shares memory", brief(exact(one.l)))
		}
		for _, p := range [][]byte{first, raw(string(wordBytes(one.l))), first} {
			before := len(given)
			l, e := batch.Unpack(one.s, p, len(one.l))
			if e != api.OK || !given.rows(l) {
				t.Fatalf("Unpack(%s) shares memory, or tells %d", brief(exact(one.l)), e)
			}
			places += len(given) - before
		}
	}
	if places < 5000 {
		t.Fatalf("only %d places", places)
	}
}

// spoil writes into a list of values, those deep inside first, and into the room behind them.
func spoil(l []api.Value) {
	for _, v := range l {
		spoil(v.Items)
	}
	whole := l[:cap(l)]
	for i := range whole {
		whole[i] = api.Value{Kind: -99, Int: 99, Float: 99, Text: "spoilt"}
	}
}

func spoilRows(l []api.Row) {
	for _, r := range l {
		spoil(r.Values)
	}
	clear(l[:cap(l)])
}

// TestAnswersAreTheCallers: R4, R5: who writes into what was handed in, or into what was told, changes no other.
func TestAnswersAreTheCallers(t *testing.T) {
	for _, one := range unlikeRows() {
		given := roomy(one)
		before, want := opened(given), fixed(one.l)
		p, _ := batch.Pack(given.s, given.l)
		kept := slices.Clone(p)
		other, _ := batch.Pack(given.s, given.l)
		clear(other[:cap(other)])
		l, _ := batch.Unpack(given.s, p, len(one.l))
		gone, _ := batch.Unpack(given.s, p, len(one.l))
		spoilRows(gone)
		if opened(given) != before || !bytes.Equal(p, kept) || exact(l) != want {
			t.Fatalf("an answer shares memory with what was handed in, or told: %s", brief(before))
		}
		clear(p[:cap(p)])
		spoilRows(given.l)
		for _, c := range given.s.Columns {
			spoil(c.Default.Items)
		}
		clear(given.s.Columns)
		if exact(l) != want {
			t.Fatalf("Unpack's answer hangs on what was handed in: %s, want %s", brief(exact(l)), brief(want))
		}
		if again, e := batch.Pack(one.s, one.l); e != api.OK || !bytes.Equal(again, kept) {
			t.Fatalf("Pack(%s) hangs on what was done to its answer: %x, %d", brief(exact(one.l)), again, e)
		}
	}
}
