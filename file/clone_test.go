package file_test

import (
	"bytes"
	"math"
	"testing"

	"gabion/api"
	"gabion/file"
)

// standing is all that a file tells.
func standing(f *file.File) string {
	c := f.Clone()
	counted := f.Counted()
	l, e := c.Rows()
	m, g := c.As(two, []string{"b"})
	s := toldText(l...) + toldText(m...) + batchText(c.Salvage()...) + string(c.Bytes())
	for n := range int64(4) {
		l, h := c.From(n)
		s += toldText(l...) + string(showNumbers(nil, int64(h)))
	}
	if f.Opened() {
		s += "open"
	}
	return string(showNumbers([]byte(s), int64(e), int64(g), int64(counted)))
}

// everything is done to a file: all that can be changed of it.
func everything(f *file.File) {
	f.Open(ints)
	f.Change(ints)
	f.Append(numbers(50, 51))
	f.Sync()
	f.Close()
	f.Rows()
	f.Damage(3, 77)
	f.Tail(row(0, 30))
	f.Open(ints)
	f.Fail(0, 0)
	f.Open(ints)
	f.Append(numbers(1))
	f.Start()
}

// clonable are files of each standing: new, open, closed, torn, down, damaged, with power that is bound to fail.
func clonable(t *testing.T) []func() *file.File {
	whole := written(t, shortScript()...).Bytes()
	return []func() *file.File{
		func() *file.File { return newFile(plenty) },
		func() *file.File { return newFile(0) },
		func() *file.File { return written(t, shortScript()...) },
		func() *file.File { return closed(t, written(t, shortScript()...)) },
		func() *file.File { return fileOf(whole[:len(whole)-3]) },
		func() *file.File { return fileOf(whole[1:]) },
		func() *file.File { return downOf(t, whole).f },
		func() *file.File {
			f := written(t, shortScript()...)
			f.Rows()
			f.Fail(5, 5)
			return f
		},
	}
}

// TestClone: P20.4: a clone tells what the file tells, and is not open.
func TestClone(t *testing.T) {
	for k, one := range clonable(t) {
		f := one()
		c := f.Clone()
		if c == f || c.Opened() || !bytes.Equal(c.Bytes(), f.Bytes()) || c.Counted() != f.Counted() {
			t.Fatalf("file %d: the clone is not another one of the same", k)
		}
		l, e := f.Rows()
		m, g := c.Rows()
		mustTell(t, "Rows of the clone", m, g, l, e)
		must(t, "Append to the clone", c.Append(numbers(1)), api.ErrState)
		must(t, "Change of the clone", c.Change(ints), api.ErrState)
		must(t, "Sync of the clone", c.Sync(), api.ErrState)
		if is, e := c.Close(); is || e != api.ErrState {
			t.Fatalf("file %d: Close of the clone: %v, %d", k, is, e)
		}
		must(t, "Start of the clone", c.Start(), one().Start())
	}
}

// TestCloneApart: P20.4, R5: neither file sees what is done to the other one.
func TestCloneApart(t *testing.T) {
	for k, one := range clonable(t) {
		f := one()
		before, c := standing(f), f.Clone()
		clone := standing(c)
		everything(c)
		if standing(f) != before || f.Opened() != one().Opened() {
			t.Fatalf("file %d sees what is done to its clone", k)
		}
		c = f.Clone()
		everything(f)
		if standing(c) != clone {
			t.Fatalf("the clone of file %d sees what is done to the file", k)
		}
		same := one()
		everything(same)
		if standing(f) != standing(same) {
			t.Fatalf("file %d, cloned, is another one than not cloned", k)
		}
	}
}

// TestCloneGoesOn: P20.4: file and clone, each open, are appended to, turn by turn.
func TestCloneGoesOn(t *testing.T) {
	p := begun(t, plenty, ints)
	p.do(shortScript()...)
	f, d, w := p.f, p.d, p.w
	q := &twins{t: t, f: p.f, d: p.d, log: append([]deed(nil), p.log...), s: p.s}
	q.clone()
	q.mustOpen(two, api.OK)
	for _, one := range shortScript() {
		p.do(one)
		q.do(one, one)
	}
	if p.f != f || p.d != d || p.w != w {
		t.Fatalf("the file is another one")
	}
	p.mustRead()
	q.mustRead()
	p.mustClose(true, api.OK)
	q.do(shortScript()...)
	q.mustRead()
	p.mustRead()
}

// TestClonePower: P20.4: power that is bound to fail is so of the clone, too, and fails in each by itself.
func TestClonePower(t *testing.T) {
	f := written(t, shortScript()...)
	must(t, "Sync", f.Sync(), api.OK)
	must(t, "Fail", f.Fail(4, math.MaxInt), api.OK)
	size := len(f.Bytes())
	c := f.Clone()
	for _, one := range []*file.File{c, f} {
		if one == c {
			must(t, "Open", c.Open(ints), api.OK)
		}
		must(t, "Append", one.Append(numbers(1)), api.ErrPower)
		if len(one.Bytes()) != size+4 || one.Opened() {
			t.Fatalf("%d bytes", len(one.Bytes()))
		}
	}
	must(t, "Start", c.Start(), api.OK)
	must(t, "Rows", second(f.Rows()), api.ErrDown)
	must(t, "Rows", second(c.Rows()), api.ErrTorn)
}

func second(_ []api.Told, e api.Errno) api.Errno { return e }
