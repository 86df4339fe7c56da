package file_test

import (
	"bytes"
	"testing"

	"gabion/api"
	"gabion/batch"
	"gabion/dev"
	"gabion/file"
	"gabion/index"
	"gabion/reader"
	"gabion/resolve"
	"gabion/salvage"
	"gabion/writer"
)

// twins are a file, and a device with a writer beside it, of which the chapter's words are asked. Each call is made of both, and the answers are held against each other.
type twins struct {
	t    *testing.T
	f    *file.File
	d    *dev.Dev
	w    *writer.Writer // the last one that was opened
	open bool
	s    api.Schema // that it is open under
	log  []deed     // what took effect; nothing is said of the log of a file that is odd
	last int        // how many of these are made to last
	odd  bool       // whether others laid bytes there, or damaged them
}

// deed is an append, and the number that its schema has; or, without rows, a close that wrote an index.
type deed struct {
	step
	number int64
}

func twinsOf(t *testing.T, quota int) *twins {
	t.Helper()
	f, e := file.New(quota)
	d, want := dev.New(quota)
	must(t, "New", e, want)
	return &twins{t: t, f: f, d: d}
}

// begun is one that is open.
func begun(t *testing.T, quota int, s api.Schema) *twins {
	t.Helper()
	p := twinsOf(t, quota)
	p.mustOpen(s, api.OK)
	return p
}

// oddOf is one of any bytes.
func oddOf(t *testing.T, b []byte) *twins {
	t.Helper()
	p := twinsOf(t, maxQuota)
	must(t, "Tail", p.tail(b), api.OK)
	return p
}

// downOf is one of any bytes, that is down.
func downOf(t *testing.T, b []byte) *twins {
	t.Helper()
	p := begun(t, maxQuota, ints)
	must(t, "Fail", p.fail(0, 0), api.OK)
	p.mustAppend(numbers(1), api.ErrPower)
	must(t, "Tail", p.tail(b), api.OK)
	return p
}

// holds asks for the same errno, and that both stand alike: P20.4.
func (p *twins) holds(call string, e, want api.Errno) {
	p.t.Helper()
	if e != want {
		p.t.Fatalf("%s: %d, want %d", call, e, want)
	}
	if p.f.Opened() != p.open {
		p.t.Fatalf("behind %s: it is open: %v, want %v", call, p.f.Opened(), p.open)
	}
	if b := p.f.Bytes(); !bytes.Equal(b, p.d.All()) {
		p.t.Fatalf("behind %s: %d bytes, want %d, or others", call, len(b), p.d.Len())
	}
	if p.f.Counted() != p.d.Counted() {
		p.t.Fatalf("behind %s: Counted %d, want %d", call, p.f.Counted(), p.d.Counted())
	}
}

// shuts: the writer is not open any more, where power failed in its call: P19.2, P19.3.
func (p *twins) shuts(e api.Errno) {
	if e == api.ErrDown || e == api.ErrPower {
		p.open = false
	}
}

func (p *twins) openUnder(s api.Schema) api.Errno {
	p.t.Helper()
	want := api.ErrState
	if !p.open {
		var w *writer.Writer
		w, want = writer.Open(p.d, s)
		if want == api.OK {
			p.w, p.s, p.open = w, s, true
		}
	}
	e := p.f.Open(s)
	p.holds("Open", e, want)
	if e == api.OK {
		p.mustHaveKept()
	}
	return e
}

func (p *twins) mustOpen(s api.Schema, want api.Errno) {
	p.t.Helper()
	must(p.t, "Open", p.openUnder(s), want)
}

func (p *twins) append(l []api.Row) api.Errno {
	p.t.Helper()
	before := p.f.Bytes()
	want := api.ErrState
	if p.open {
		want = p.cause(l)
		if e := p.w.Append(l); want == api.OK {
			want = e
			p.shuts(e)
		}
	}
	e := p.f.Append(l)
	p.holds("Append", e, want)
	switch {
	case e == api.OK:
		p.log = append(p.log, deed{step{p.s, l}, p.number()})
	case e != api.ErrPower && !bytes.Equal(p.f.Bytes(), before):
		p.t.Fatalf("Append was refused, %d, and changed the bytes", e)
	}
	return e
}

// cause is why an append must be refused, though power does not fail: P0.1.
func (p *twins) cause(l []api.Row) api.Errno {
	if _, e := batch.Pack(p.s, l); e != api.OK {
		return e
	}
	if n, _ := p.w.Need(l); p.d.Len()+n > p.d.Quota() {
		return api.ErrNoSpace
	}
	return api.OK
}

// number is that of the schema that it is open under, by the log.
func (p *twins) number() int64 {
	for i := len(p.log) - 1; i >= 0; i-- {
		one := p.log[i]
		if len(one.l) == 0 {
			continue
		}
		if schemaText(fixedSchema(one.s)) == schemaText(fixedSchema(p.s)) {
			return one.number
		}
		return one.number + 1
	}
	return 0
}

func (p *twins) mustAppend(l []api.Row, want api.Errno) {
	p.t.Helper()
	must(p.t, "Append", p.append(l), want)
}

func (p *twins) change(s api.Schema) api.Errno {
	p.t.Helper()
	want := api.ErrState
	if p.open {
		want = p.w.Change(s)
		if want == api.OK {
			p.s = s
		}
	}
	e := p.f.Change(s)
	p.holds("Change", e, want)
	return e
}

// do makes steps, all of which are answered OK.
func (p *twins) do(steps ...step) {
	p.t.Helper()
	for _, one := range steps {
		must(p.t, "Change", p.change(one.s), api.OK)
		p.mustAppend(one.l, api.OK)
	}
}

func (p *twins) sync() api.Errno {
	p.t.Helper()
	want := api.ErrState
	if p.open {
		want = p.w.Sync()
		p.shuts(want)
	}
	e := p.f.Sync()
	p.holds("Sync", e, want)
	if e == api.OK {
		p.last = len(p.log)
	}
	return e
}

func (p *twins) close() (bool, api.Errno) {
	p.t.Helper()
	wrote, want := false, api.ErrState
	if p.open {
		wrote, want = p.w.Close()
		p.open = false
	}
	is, e := p.f.Close()
	p.holds("Close", e, want)
	if is != wrote {
		p.t.Fatalf("Close: an index: %v, want %v", is, wrote)
	}
	if is {
		p.log = append(p.log, deed{step: step{s: p.s}})
	}
	if e == api.OK {
		p.last = len(p.log)
	}
	return is, e
}

func (p *twins) mustClose(wrote bool, want api.Errno) {
	p.t.Helper()
	is, e := p.close()
	must(p.t, "Close", e, want)
	if is != wrote {
		p.t.Fatalf("Close: an index: %v, want %v by hand", is, wrote)
	}
}

func (p *twins) fail(after, keep int) api.Errno {
	p.t.Helper()
	want := p.d.Fail(after, keep)
	e := p.f.Fail(after, keep)
	p.holds("Fail", e, want)
	return e
}

func (p *twins) start() api.Errno {
	p.t.Helper()
	want := p.d.Start()
	e := p.f.Start()
	p.holds("Start", e, want)
	return e
}

func (p *twins) damage(at int, v byte) api.Errno {
	p.t.Helper()
	want := api.ErrState
	if !p.open {
		want = p.d.Damage(at, v)
	}
	e := p.f.Damage(at, v)
	p.holds("Damage", e, want)
	p.odd = p.odd || e == api.OK
	return e
}

func (p *twins) tail(b []byte) api.Errno {
	p.t.Helper()
	want := api.ErrState
	if !p.open {
		want = p.d.Tail(b)
	}
	e := p.f.Tail(b)
	p.holds("Tail", e, want)
	p.odd = p.odd || e == api.OK
	return e
}

// told holds rows, and why they end, against each other: P20.3.
func (p *twins) told(call string, got []api.Told, e api.Errno, want []api.Told, why api.Errno) ([]api.Told, api.Errno) {
	p.t.Helper()
	mustTell(p.t, call, got, e, want, why)
	p.holds(call, e, why)
	return got, e
}

func (p *twins) rows() ([]api.Told, api.Errno) {
	p.t.Helper()
	r := reader.Raw(p.d)
	want := r.All()
	got, e := p.f.Rows()
	return p.told("Rows", got, e, want, r.Err())
}

func (p *twins) as(s api.Schema, names ...string) ([]api.Told, api.Errno) {
	p.t.Helper()
	r, why := reader.As(p.d, s, names)
	var want []api.Told
	if why == api.OK {
		want = r.All()
		why = r.Err()
	}
	got, e := p.f.As(s, names)
	return p.told("As", got, e, want, why)
}

func (p *twins) from(n int64) ([]api.Told, api.Errno) {
	p.t.Helper()
	r, why := index.Seek(p.d, n)
	var want []api.Told
	if why == api.OK {
		want = r.All()
		why = r.Err()
	}
	got, e := p.f.From(n)
	return p.told("From", got, e, want, why)
}

func (p *twins) salvage() []api.Batch {
	p.t.Helper()
	want := salvage.All(p.d.All())
	got := p.f.Salvage()
	if batchText(got...) != batchText(want...) {
		p.t.Fatalf("Salvage: %d batches, want %d: %s, want %s", len(got), len(want), brief(batchText(got...)), brief(batchText(want...)))
	}
	p.holds("Salvage", api.OK, api.OK)
	return got
}

// reads asks for all that can be read.
func (p *twins) reads() {
	p.t.Helper()
	l, _ := p.rows()
	for _, s := range readers() {
		p.as(s)
	}
	p.as(two, "b")
	p.as(two, "b", "a")
	p.as(two, "c")
	for _, n := range []int64{-1, 0, 1, int64(len(l)) / 2, int64(len(l)) - 1, int64(len(l)), 1 << 40} {
		p.from(n)
	}
	p.salvage()
}

// readers are schemas to read under: such as all files of tests can be read under, some of their rows, none; and some that may not be.
func readers() []api.Schema {
	return []api.Schema{ints, two, of(plain("a", ofFloat)), of(with("z", ofText, text("?")), with("b", optOf(ofBytes), opt())), of(plain("a", optOf(ofInt))), of(plain("q", ofInt)), of(with("f", listOf(ofFloat), list(bits(0xfff8000000000bad)))), {}, wide(17)}
}

// clone goes on with a clone, of both; it is not open.
func (p *twins) clone() {
	p.t.Helper()
	p.f, p.d, p.open = p.f.Clone(), p.d.Clone(), false
	p.holds("Clone", api.OK, api.OK)
}

// asWritten are the rows of the log: P0.1.
func (p *twins) asWritten() []api.Told {
	var all []api.Told
	for _, one := range p.log {
		for _, r := range one.l {
			all = append(all, api.Told{Row: fixedRow(r), At: int64(len(all)), Number: one.number})
		}
	}
	return all
}

// asRead are the rows of the log under a schema: P0.1.
func (p *twins) asRead(s api.Schema) []api.Told {
	var all []api.Told
	for _, one := range p.log {
		for _, r := range one.l {
			x := api.Told{At: int64(len(all)), Number: one.number}
			x.Row, x.E = resolve.Row(one.s, s, r)
			all = append(all, x)
		}
	}
	return all
}

// mustRead: P0.1: the file's rows are those of the appends that were answered OK, as they were written and under other schemas; P0.5: from each number on.
func (p *twins) mustRead() {
	p.t.Helper()
	want := p.asWritten()
	l, e := p.rows()
	mustTell(p.t, "Rows", l, e, want, api.OK)
	for _, s := range readers() {
		if len(s.Columns) > 0 && len(s.Columns) <= 16 {
			l, e := p.as(s)
			mustTell(p.t, "As", l, e, p.asRead(s), api.OK)
		}
	}
	for n := 0; n < len(want); n += 1 + len(want)/7 {
		l, e := p.from(int64(n))
		mustTell(p.t, "From", l, e, want[n:], api.OK)
	}
	l, e = p.from(int64(len(want)))
	mustTell(p.t, "From", l, e, nil, api.ErrRange)
	p.mustSave(want)
}

// mustSave: P0.3: of a file without damage salvage tells just its rows.
func (p *twins) mustSave(want []api.Told) {
	p.t.Helper()
	var l []api.Told
	for _, one := range p.salvage() {
		l = append(l, told(one.First, one.Number, one.Rows...)...)
	}
	mustTell(p.t, "Salvage", l, api.OK, want, api.OK)
}

// mustHaveKept: P0.2: behind an opening there are the rows of the first appends, all those that were made to last, none in part; and the bytes are those of a file that had no others.
func (p *twins) mustHaveKept() {
	p.t.Helper()
	if p.odd {
		return
	}
	l, e := p.f.Clone().Rows()
	must(p.t, "Rows behind an opening", e, api.OK)
	kept, n := 0, 0
	for kept < len(p.log) && (n < len(l) || kept < p.last) {
		n += len(p.log[kept].l)
		kept++
	}
	p.log = p.log[:kept]
	mustTell(p.t, "Rows behind an opening", l, e, p.asWritten(), api.OK)
	if again := replayed(p.t, p.log); !bytes.Equal(p.f.Bytes(), again) {
		p.t.Fatalf("behind an opening the file has %d bytes, want %d, or others", len(p.f.Bytes()), len(again))
	}
}

// replayed are the bytes of a file of which just this was asked, in one go.
func replayed(t *testing.T, log []deed) []byte {
	t.Helper()
	f := newFile(maxQuota)
	for _, one := range log {
		if !f.Opened() {
			must(t, "Open", f.Open(one.s), api.OK)
		}
		if len(one.l) == 0 {
			mustClose(t, f, true)
			continue
		}
		must(t, "Change", f.Change(one.s), api.OK)
		must(t, "Append", f.Append(one.l), api.OK)
	}
	return f.Bytes()
}

// mustBeShut: P20.1: of a file that is not open each call of the writer is ErrState, whatever it is given, and nothing changes.
func (p *twins) mustBeShut() {
	p.t.Helper()
	before := p.f.Bytes()
	for _, l := range [][]api.Row{numbers(1), nil, {{}}, numbers(make([]int64, 65)...)} {
		p.mustAppend(l, api.ErrState)
	}
	for _, s := range []api.Schema{ints, two, {}, wide(17)} {
		must(p.t, "Change", p.change(s), api.ErrState)
	}
	must(p.t, "Sync", p.sync(), api.ErrState)
	p.mustClose(false, api.ErrState)
	if p.f.Opened() || !bytes.Equal(p.f.Bytes(), before) {
		p.t.Fatalf("a refused call changed the file")
	}
}

// mustBeDown: P20.3, P20.4: of a file that is down reading is ErrDown, but Salvage and Bytes; it is not open.
func (p *twins) mustBeDown() {
	p.t.Helper()
	p.mustBeShut()
	p.mustOpen(ints, api.ErrDown)
	must(p.t, "Fail", p.fail(0, 0), api.ErrDown)
	counted := p.f.Counted()
	l, e := p.rows()
	mustTell(p.t, "Rows", l, e, nil, api.ErrDown)
	l, e = p.as(ints)
	mustTell(p.t, "As", l, e, nil, api.ErrDown)
	l, e = p.as(two, "b")
	mustTell(p.t, "As", l, e, nil, api.ErrDown)
	for _, n := range []int64{-1, 0, 1, 1 << 40} {
		l, e = p.from(n)
		mustTell(p.t, "From", l, e, nil, api.ErrDown)
	}
	p.salvage()
	if p.f.Counted() != counted {
		p.t.Fatalf("of a file that is down something was read")
	}
}
