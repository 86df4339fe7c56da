package index_test

import (
	"slices"
	"testing"

	"gabion/api"
	"gabion/dev"
	"gabion/index"
	"gabion/reader"
)

// deep is a file of rows with lists within lists, with a fresh index.
func deep() *dev.Dev {
	s := of(plain("l", listOf(optOf(listOf(ofInt)))), with("t", listOf(ofText), list(text("y"))))
	l := &laid{}
	for n := range int64(3) {
		l.schema(n, s)
		for range 5 {
			l.data([]api.Row{
				values(list(opt(list(number(1), number(2))), opt(), opt(list())), list(text("x"))),
				values(list(opt(list(number(3)))), list()),
			})
		}
	}
	l.index()
	return device(l.b)
}

// calls are the ways to a reader.
func calls() []func(d *dev.Dev, n int64) (*reader.Reader, api.Errno) {
	return []func(d *dev.Dev, n int64) (*reader.Reader, api.Errno){index.Seek, index.Slow}
}

// spoilValues writes into a list of values, those deep inside first, and into the room behind them.
func spoilValues(l []api.Value) {
	for _, v := range l {
		spoilValues(v.Items)
	}
	all := l[:cap(l)]
	for i := range all {
		all[i] = api.Value{Kind: -99, Int: 99, Float: 99, Text: "spoilt"}
	}
}

func spoilTold(l []api.Told) {
	for _, one := range l {
		spoilValues(one.Row.Values)
	}
	clear(l[:cap(l)])
}

// memory is each place of the lists that it was shown, with the room behind them.
type memory map[any]bool

// claim tells whether nothing of a list was shown ahead of it.
func claim[T any](m memory, l []T) bool {
	free := true
	all := l[:cap(l)]
	for i := range all {
		free = free && !m[&all[i]]
		m[&all[i]] = true
	}
	return free
}

func (m memory) values(l []api.Value) bool {
	free := claim(m, l)
	for _, v := range l {
		free = m.values(v.Items) && free
	}
	return free
}

// TestToldIsTheCallers: R4, R5: who writes over an index, or over rows that were told, and over the room behind their lists, changes nothing of what is told later, nor of the file.
func TestToldIsTheCallers(t *testing.T) {
	d := deep()
	before := state(d)
	built, _ := index.Build(d)
	last, _, _ := index.Last(d)
	want, wantLast := indexText(built), indexText(last)
	for range 3 {
		clear(built.Entries[:cap(built.Entries)])
		clear(last.Entries[:cap(last.Entries)])
		built, _ = index.Build(d)
		last, _, _ = index.Last(d)
		if indexText(built) != want || indexText(last) != wantLast || len(last.Entries) != 4 {
			t.Fatalf("%s, %s", indexText(built), indexText(last))
		}
	}
	for k, call := range calls() {
		for n := range int64(30) {
			r, _ := call(d, n)
			other, _ := call(d, n)
			text := toldText(r.All()...)
			for one, is := other.Next(); is; one, is = other.Next() {
				spoilValues(one.Row.Values)
			}
			r, _ = call(d, n)
			all := r.All()
			if toldText(all...) != text || len(all) != int(30-n) {
				t.Fatalf("call %d, row %d: %s, want %s", k, n, brief(toldText(all...)), brief(text))
			}
			spoilTold(all)
		}
	}
	if state(d) != before {
		t.Fatalf("the file was changed")
	}
}

// TestNewMemory: R4: no two lists of what is told share any memory, nor with what another call told, nor the room behind them.
func TestNewMemory(t *testing.T) {
	d := deep()
	shown := memory{}
	for range 3 {
		built, _ := index.Build(d)
		last, _, _ := index.Last(d)
		if !claim(shown, built.Entries) || !claim(shown, last.Entries) {
			t.Fatalf("an index shares memory")
		}
	}
	for k, call := range calls() {
		for n := range int64(30) {
			r, _ := call(d, n)
			for one, is := r.Next(); is; one, is = r.Next() {
				if !shown.values(one.Row.Values) {
					t.Fatalf("call %d, row %d: a row shares memory", k, n)
				}
			}
		}
	}
	if len(shown) < 5000 {
		t.Fatalf("only %d places", len(shown))
	}
}

// TestOneAnswer: R5: the same bytes, the same answers, however they came there, and whatever was asked ahead of it.
func TestOneAnswer(t *testing.T) {
	d := deep()
	other, _ := dev.New(api.MaxQuota)
	for piece := range slices.Chunk(d.All(), 7) {
		other.Write(piece)
		index.Build(other)
		index.Last(other)
		index.Seek(other, 3)
		index.Slow(other, 3)
	}
	for _, x := range []*dev.Dev{d, other, d.Clone()} {
		p := lookAt(x)
		p.askBuild(t)
		if _, is := p.askLast(t); !is {
			t.Fatalf("the index is not fresh")
		}
		for n := range int64(31) {
			p.ask(t, n)
		}
	}
}

// TestClonesStay: R5: what is done to a file's clone is nothing to the reader of the file.
func TestClonesStay(t *testing.T) {
	d := deep()
	for k, call := range calls() {
		for _, n := range []int64{0, 9, 17, 29} {
			r, _ := call(d, n)
			want := toldText(r.All()...)
			r, _ = call(d, n)
			c := d.Clone()
			counted := c.Counted()
			c.Cut(20)
			if got := toldText(r.All()...); got != want || c.Counted() != counted {
				t.Fatalf("call %d: %s, want %s", k, brief(got), brief(want))
			}
		}
	}
}
