package frame_test

import (
	"bytes"
	"slices"
	"testing"

	"gabion/api"
	"gabion/frame"
)

// withRoom is a list with room behind it, in which something stands that is not the list's.
func withRoom[T any](l []T, room ...T) []T {
	all := slices.Concat(l, room)
	return all[:len(l)]
}

func roomyValue(v api.Value) api.Value {
	var items []api.Value
	for _, item := range v.Items {
		items = append(items, roomyValue(item))
	}
	v.Items = withRoom(items, nan(0xfff8000000000bad), text("room"))
	return v
}

func roomyType(t api.Type) api.Type {
	var inner []api.Type
	for _, one := range t.Of {
		inner = append(inner, roomyType(one))
	}
	t.Of = withRoom(inner, kind(77), kind(78))
	return t
}

// roomy has room behind each of its lists.
func roomy(f api.Frame) api.Frame {
	var columns []api.Column
	for _, c := range f.Schema.Columns {
		columns = append(columns, api.Column{Name: c.Name, Type: roomyType(c.Type), Has: c.Has, Default: roomyValue(c.Default)})
	}
	f.Schema.Columns = withRoom(columns, plain("room", kind(79)), plain("z", ofInt))
	f.Block = withRoom(f.Block, bytes.Repeat([]byte("room"), 20)...)
	f.Index.Entries = withRoom(f.Index.Entries, entry(-7, -7, -7), entry(8, 8, 8))
	return f
}

func openedValue(v api.Value) api.Value {
	all := v
	all.Items = nil
	for _, item := range v.Items[:cap(v.Items)] {
		all.Items = append(all.Items, openedValue(item))
	}
	return all
}

func openedType(t api.Type) api.Type {
	all := kind(t.Kind)
	for _, inner := range t.Of[:cap(t.Of)] {
		all.Of = append(all.Of, openedType(inner))
	}
	return all
}

// opened tells all that stands in a frame's lists, with the room behind them.
func opened(f api.Frame) string {
	columns := f.Schema.Columns
	f.Schema.Columns = nil
	for _, c := range columns[:cap(columns)] {
		c.Type, c.Default = openedType(c.Type), openedValue(c.Default)
		f.Schema.Columns = append(f.Schema.Columns, c)
	}
	f.Block = f.Block[:cap(f.Block)]
	f.Index.Entries = f.Index.Entries[:cap(f.Index.Entries)]
	return exact(f)
}

// within is b within a larger list, with room ahead of it and behind, and that list.
func within(b []byte) (inner, outer []byte) {
	outer = slices.Concat(bytes.Repeat([]byte{1}, 20), b, bytes.Repeat([]byte{1}, 100))
	return outer[20 : 20+len(b)], outer
}

// TestArgumentStays: R4, R5: what is handed in stays, with the room behind each list; nothing of that room counts; a second call answers the same.
func TestArgumentStays(t *testing.T) {
	l := slices.Concat(manyFrames()[:1500], unlikeFrames())
	for k, f := range l {
		given, next := roomy(f), roomy(l[(k+1)%len(l)])
		next.Kind = f.Kind
		before, nextBefore := opened(given), opened(next)
		want, wantE := wordEncode(f)
		inner, outer := within(want)
		if wantE == api.OK {
			inner = inner[1 : len(inner)-1]
		}
		kept := slices.Clone(outer)
		told, toldE := wordDecode(inner)
		for range 2 {
			if b, e := frame.Encode(given); e != wantE || !bytes.Equal(b, want) {
				t.Fatalf("the room counts: Encode(%s): %.80x, %d, want %.80x, %d", brief(before), b, e, want, wantE)
			}
			if g, e := frame.Decode(inner); e != toldE || exact(g) != exact(told) {
				t.Fatalf("Decode(%.80x): %s, %d, want %s, %d", inner, brief(exact(g)), e, brief(exact(told)), toldE)
			}
			if !frame.Same(given, f) || frame.Same(given, next) != (fixed(bare(given)) == fixed(bare(next))) {
				t.Fatalf("the room counts: Same of %s", brief(before))
			}
		}
		if opened(given) != before || opened(next) != nextBefore || !bytes.Equal(outer, kept) {
			t.Fatalf("what was handed in was changed: %s", brief(before))
		}
	}
}

// TestBrokenRunStays: R4, R5: likewise of runs that are refused.
func TestBrokenRunStays(t *testing.T) {
	for k, f := range unlikeFrames() {
		for i := range uint64(60) {
			b := run(wordFields(f))
			m := mixed(uint64(k)<<20 + i)
			b[m%uint64(len(b))] = byte(m >> 32)
			inner, outer := within(b)
			kept := slices.Clone(outer)
			want := asDecoded(t, inner)
			if _, e := frame.Decode(inner); e != want || !bytes.Equal(outer, kept) {
				t.Fatalf("Decode(%.80x) changed what was handed in, or tells %d and then %d", b, want, e)
			}
		}
	}
}

// memory is each place of the lists that it was shown, with the room behind them.
type memory map[any]bool

// claim tells whether nothing of a list was shown ahead of it.
func claim[T any](m memory, l []T) bool {
	free := true
	all := l[:cap(l)]
	for i := range all {
		free = free && !m[&all[i]]
		m[&all[i]] = true
	}
	return free
}

func (m memory) types(l []api.Type) bool {
	free := claim(m, l)
	for _, t := range l {
		free = m.types(t.Of) && free
	}
	return free
}

func (m memory) values(l []api.Value) bool {
	free := claim(m, l)
	for _, v := range l {
		free = m.values(v.Items) && free
	}
	return free
}

func (m memory) frame(f api.Frame) bool {
	free := claim(m, f.Schema.Columns)
	for _, c := range f.Schema.Columns {
		free = m.types(c.Type.Of) && free
		free = m.values(c.Default.Items) && free
	}
	free = claim(m, f.Block) && free
	return claim(m, f.Index.Entries) && free
}

// TestNewMemory: R4: no two lists of an answer share any memory, none with an argument or another answer, nor the room behind them.
func TestNewMemory(t *testing.T) {
	places := 0
	for _, f := range slices.Concat(rightFrames()[:300], unlikeFrames()) {
		given := memory{}
		f = roomy(f)
		given.frame(f)
		first, _ := frame.Encode(f)
		second, _ := frame.Encode(f)
		if !claim(given, first) || !claim(given, second) {
			t.Fatalf("Encode(%s) shares memory", brief(exact(f)))
		}
		for _, b := range [][]byte{first, second, first} {
			before := len(given)
			g, e := frame.Decode(b[1 : len(b)-1])
			if e != api.OK || !given.frame(g) {
				t.Fatalf("Decode of Encode(%s) shares memory, or tells %d", brief(exact(f)), e)
			}
			places += len(given) - before
		}
	}
	if places < 5000 {
		t.Fatalf("only %d places", places)
	}
}

func spoilValues(l []api.Value) {
	for _, v := range l {
		spoilValues(v.Items)
	}
	clear(l[:cap(l)])
}

// spoil writes into all lists of a frame, and into the room behind them.
func spoil(f api.Frame) {
	for _, c := range f.Schema.Columns {
		spoilValues(c.Default.Items)
		for of := c.Type.Of; len(of) > 0; {
			inner := of[0].Of
			clear(of[:cap(of)])
			of = inner
		}
	}
	clear(f.Schema.Columns[:cap(f.Schema.Columns)])
	clear(f.Block[:cap(f.Block)])
	clear(f.Index.Entries[:cap(f.Index.Entries)])
}

// TestAnswersAreTheCallers: R4, R5: who writes into what was handed in, or into what was told, changes no other.
func TestAnswersAreTheCallers(t *testing.T) {
	for _, f := range slices.Concat(unlikeFrames(), rightFrames()[:200]) {
		given := roomy(f)
		before, want := opened(given), fixed(bare(f))
		b, _ := frame.Encode(given)
		kept := slices.Clone(b)
		other, _ := frame.Encode(given)
		clear(other[:cap(other)])
		told, _ := frame.Decode(b[1 : len(b)-1])
		gone, _ := frame.Decode(b[1 : len(b)-1])
		spoil(gone)
		if opened(given) != before || !bytes.Equal(b, kept) || exact(told) != want {
			t.Fatalf("an answer shares memory with what was handed in, or told: %s", brief(before))
		}
		clear(b[:cap(b)])
		spoil(given)
		if exact(told) != want {
			t.Fatalf("Decode's answer hangs on what was handed in: %s, want %s", brief(exact(told)), brief(want))
		}
		if again, e := frame.Encode(f); e != api.OK || !bytes.Equal(again, kept) {
			t.Fatalf("Encode(%s) hangs on what was done to its answer: %.80x, %d", brief(exact(f)), again, e)
		}
	}
}
