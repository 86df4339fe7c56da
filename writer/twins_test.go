package writer_test

import (
	"regexp"
	"testing"

	"gabion/api"
	"gabion/batch"
	"gabion/dev"
	"gabion/reader"
	"gabion/repair"
	"gabion/scan"
	"gabion/schema"
	"gabion/writer"
)

// twins are a file that a writer appends to, and another one, to which the chapter's words write. Each call is made of both, and then all that can be asked is held against each other.
type twins struct {
	t    *testing.T
	d    *dev.Dev
	w    *writer.Writer // nil, as long as none was opened
	twin *dev.Dev
	words
	s       api.Schema
	open    bool
	failed  bool      // whether power has failed since the writer was opened
	foreign bool      // whether others wrote to the file ahead of it
	kept    []api.Row // of a file that is not foreign, all its rows
	synced  int64     // how many of these are
}

func twinsOf(t *testing.T, d *dev.Dev) *twins {
	t.Helper()
	return &twins{t: t, d: d, twin: d.Clone(), foreign: d.Len() > 0}
}

// begin opens a file that takes it.
func begin(t *testing.T, d *dev.Dev, s api.Schema) *twins {
	t.Helper()
	p := twinsOf(t, d)
	p.Open(s, api.OK)
	return p
}

func empty(t *testing.T, s api.Schema) *twins {
	t.Helper()
	return begin(t, deviceOf(plenty, nil), s)
}

// number is the writer's, by the words.
func (p *twins) number() int64 {
	number, told := p.last()
	if number >= 0 && told == schemaText(p.s) {
		return number
	}
	return number + 1
}

// due are the frames that an append writes, by the words.
func (p *twins) due(l []api.Row) ([]api.Frame, api.Errno) {
	block, e := batch.Pack(p.s, l)
	if e != api.OK {
		return nil, e
	}
	var due []api.Frame
	if last, _ := p.last(); p.number() > last || p.since() >= 8 {
		due = append(due, schemaFrame(p.number(), p.s))
	}
	return append(due, dataFrame(p.number(), p.frames(), p.rows(), len(l), string(block))), api.OK
}

// lay writes frames to the twin, all of them at once; if that is done, they are taken.
func (p *twins) lay(frames []api.Frame) api.Errno {
	var b []byte
	var l []taken
	for _, f := range frames {
		l = append(l, taken{f, int64(p.twin.Len() + len(b))})
		b = append(b, encoded(f)...)
	}
	e := p.twin.Write(b)
	switch e {
	case api.OK:
		p.all = append(p.all, l...)
	case api.ErrDown, api.ErrPower:
		p.open, p.failed = false, true
	}
	return e
}

// wordOpen, wordAppend, wordChange, wordSync, wordClose, wordNeed are the calls by the words.
func (p *twins) wordOpen(s api.Schema) api.Errno {
	if e := schema.Check(s); e != api.OK {
		return e
	}
	if _, e := repair.Do(p.twin); e != api.OK {
		return e
	}
	frames, whole := readWords(p.twin.All())
	if !whole {
		p.t.Fatalf("a file is not whole behind a repair")
	}
	p.words, p.s, p.open, p.failed = frames, s, true, false
	return api.OK
}

func (p *twins) wordAppend(l []api.Row) api.Errno {
	if !p.open {
		return api.ErrState
	}
	due, e := p.due(l)
	if e != api.OK {
		return e
	}
	return p.lay(due)
}

func (p *twins) wordChange(s api.Schema) api.Errno {
	if !p.open {
		return api.ErrState
	}
	e := schema.Check(s)
	if e == api.OK {
		p.s = s
	}
	return e
}

func (p *twins) wordSync() api.Errno {
	if !p.open {
		return api.ErrState
	}
	e := p.twin.Sync()
	if e != api.OK {
		p.open, p.failed = false, true
	}
	return e
}

func (p *twins) wordClose() (bool, api.Errno) {
	if !p.open {
		return false, api.ErrState
	}
	p.open = false
	x := p.ownIndex(int64(p.twin.Len()))
	wrote := !p.closed() && p.twin.Len()+len(encoded(x)) <= p.twin.Quota()
	if wrote {
		if e := p.lay([]api.Frame{x}); e != api.OK {
			return false, e
		}
	}
	if e := p.twin.Sync(); e != api.OK {
		p.failed = true
		return false, e
	}
	return wrote, api.OK
}

func (p *twins) wordNeed(l []api.Row) (int, api.Errno) {
	if !p.open {
		return 0, api.ErrState
	}
	due, e := p.due(l)
	n := 0
	for _, f := range due {
		n += len(encoded(f))
	}
	return n, e
}

// Open, Append, Change, Sync, Close, Need make a call of both, and ask for the same answer, which is told by hand.
func (p *twins) Open(s api.Schema, want api.Errno) {
	p.t.Helper()
	p.holds("Open", p.open1(s), want)
}

func (p *twins) open1(s api.Schema) api.Errno {
	p.t.Helper()
	was := schemaText(s)
	want := p.wordOpen(s)
	w, e := writer.Open(p.d, s)
	p.holds("Open", e, want)
	if (w != nil) != (e == api.OK) || schemaText(s) != was {
		p.t.Fatalf("Open: %d, and a writer: %v", e, w != nil)
	}
	if e == api.OK {
		p.w = w
		p.mustHaveKept()
	}
	p.stands()
	return e
}

func (p *twins) Append(l []api.Row, want api.Errno) {
	p.t.Helper()
	p.holds("Append", p.append1(l), want)
}

func (p *twins) append1(l []api.Row) api.Errno {
	p.t.Helper()
	before, was := state(p.d), rowsText(l)
	want := p.wordAppend(l)
	e := p.w.Append(l)
	p.holds("Append", e, want)
	switch {
	case rowsText(l) != was:
		p.t.Fatalf("Append changed the rows")
	case e == api.OK:
		p.kept = append(p.kept, l...)
	case e != api.ErrPower && state(p.d) != before:
		p.t.Fatalf("Append was refused, %d, and changed the file", e)
	}
	p.stands()
	return e
}

func (p *twins) Change(s api.Schema, want api.Errno) {
	p.t.Helper()
	p.holds("Change", p.change1(s), want)
}

func (p *twins) change1(s api.Schema) api.Errno {
	p.t.Helper()
	before, was := state(p.d), schemaText(s)
	want := p.wordChange(s)
	e := p.w.Change(s)
	p.holds("Change", e, want)
	if state(p.d) != before || schemaText(s) != was {
		p.t.Fatalf("Change wrote something")
	}
	p.stands()
	return e
}

func (p *twins) Sync(want api.Errno) {
	p.t.Helper()
	p.holds("Sync", p.sync1(), want)
}

func (p *twins) sync1() api.Errno {
	p.t.Helper()
	want := p.wordSync()
	e := p.w.Sync()
	p.holds("Sync", e, want)
	if e == api.OK {
		p.synced = p.rows()
	}
	p.stands()
	return e
}

func (p *twins) Close(wrote bool, want api.Errno) {
	p.t.Helper()
	is, e := p.close1()
	p.holds("Close", e, want)
	if is != wrote {
		p.t.Fatalf("Close: an index: %v, want %v by hand", is, wrote)
	}
}

func (p *twins) close1() (bool, api.Errno) {
	p.t.Helper()
	wantIs, want := p.wordClose()
	is, e := p.w.Close()
	p.holds("Close", e, want)
	if is != wantIs {
		p.t.Fatalf("Close: an index: %v, want %v", is, wantIs)
	}
	if e == api.OK {
		p.synced = p.rows()
	}
	p.stands()
	return is, e
}

// Need tells how many bytes.
func (p *twins) Need(l []api.Row, want api.Errno) int {
	p.t.Helper()
	n, e := p.need1(l)
	p.holds("Need", e, want)
	return n
}

func (p *twins) need1(l []api.Row) (int, api.Errno) {
	p.t.Helper()
	before, was := state(p.d), rowsText(l)
	wantN, want := p.wordNeed(l)
	n, e := p.w.Need(l)
	p.holds("Need", e, want)
	if n != wantN || state(p.d) != before || rowsText(l) != was {
		p.t.Fatalf("Need: %d bytes, want %d", n, wantN)
	}
	p.stands()
	return n, e
}

func (p *twins) holds(call string, e, want api.Errno) {
	p.t.Helper()
	if e != want {
		p.t.Fatalf("%s behind %q: %d, want %d", call, p.kinds(), e, want)
	}
}

// both does something to both files that is not the writer's.
func (p *twins) both(what func(d *dev.Dev)) {
	what(p.d)
	what(p.twin)
}

func (p *twins) fail(after, keep int) { p.both(func(d *dev.Dev) { d.Fail(after, keep) }) }

func (p *twins) start() { p.both(func(d *dev.Dev) { d.Start() }) }

func (p *twins) down() { p.both(takeDown) }

// stands holds all against each other that can be asked without a change: P19.5, P19.6.
func (p *twins) stands() {
	p.t.Helper()
	if state(p.d) != state(p.twin) {
		p.t.Fatalf("behind %q the file is not what it should be: %d bytes, up %v, %d synced, %d deeds, want %d, %v, %d, %d", p.kinds(), p.d.Len(), p.d.Up(), p.d.Synced(), p.d.Written(), p.twin.Len(), p.twin.Up(), p.twin.Synced(), p.twin.Written())
	}
	if p.w == nil {
		return
	}
	if p.w.Frames() != p.frames() || p.w.Rows() != p.rows() || p.w.Number() != p.number() {
		p.t.Fatalf("behind %q: Frames %d, Rows %d, Number %d, want %d, %d, %d", p.kinds(), p.w.Frames(), p.w.Rows(), p.w.Number(), p.frames(), p.rows(), p.number())
	}
	if !p.failed && p.d.Up() {
		p.mustBeWhole()
	}
}

// twice are too many frames between two data frames, or behind the last one.
var twice = regexp.MustCompile("SX?S|XS?X")

// mustBeWhole: P19.6: the file is whole, of the frames that were taken; between two data frames stand at most one schema frame and one index, unless others wrote them.
func (p *twins) mustBeWhole() {
	p.t.Helper()
	if w, at, e := scan.Whole(p.d.Clone()); e != api.ErrEnd || at != p.d.Len() || w.Frames() != p.frames() || w.Closed() != p.closed() {
		p.t.Fatalf("behind %q the file is not whole: %d of %d, %d", p.kinds(), at, p.d.Len(), e)
	}
	if !p.foreign && twice.MatchString(p.kinds()) {
		p.t.Fatalf("a frame too many: %s", p.kinds())
	}
}

// mustHaveKept: P0.2: behind an opening there are all rows that were synced, and the first of the others.
func (p *twins) mustHaveKept() {
	p.t.Helper()
	if p.foreign {
		return
	}
	n := p.rows()
	if n < p.synced || n > int64(len(p.kept)) {
		p.t.Fatalf("%d rows of %d, %d of which were synced", n, len(p.kept), p.synced)
	}
	p.kept = p.kept[:n]
}

// mustRead: P0.1: a reader tells all the rows that were appended.
func (p *twins) mustRead() {
	p.t.Helper()
	r := reader.Raw(p.d.Clone())
	var l []api.Row
	for one, is := r.Next(); is; one, is = r.Next() {
		l = append(l, one.Row)
	}
	if r.Err() != api.OK || p.foreign || rowsText(l) != rowsText(p.kept) {
		p.t.Fatalf("%d rows, %d, want %d: %s, want %s", len(l), r.Err(), len(p.kept), brief(rowsText(l)), brief(rowsText(p.kept)))
	}
}

// mustBeShut: it is not open: each call tells ErrState, whatever it is given, and changes nothing; what Frames, Rows, Number tell stays.
func (p *twins) mustBeShut() {
	p.t.Helper()
	for _, l := range [][]api.Row{numbers(1), nil, {{}}} {
		p.Append(l, api.ErrState)
		p.Need(l, api.ErrState)
	}
	p.Change(ints, api.ErrState)
	p.Change(two, api.ErrState)
	p.Change(api.Schema{}, api.ErrState)
	p.Sync(api.ErrState)
	p.Close(false, api.ErrState)
}

// mustStand asks what is told by hand.
func (p *twins) mustStand(kinds string, frames, rows, number int64) {
	p.t.Helper()
	if p.kinds() != kinds || p.w.Frames() != frames || p.w.Rows() != rows || p.w.Number() != number {
		p.t.Fatalf("%s, Frames %d, Rows %d, Number %d, want %s, %d, %d, %d", p.kinds(), p.w.Frames(), p.w.Rows(), p.w.Number(), kinds, frames, rows, number)
	}
}
