package file_test

import (
	"bytes"
	"strings"
	"testing"

	"gabion/api"
)

// TestNotOpen: P20.1: of a file that was never opened, of one that is closed, and of one whose opening was refused: ErrState.
func TestNotOpen(t *testing.T) {
	p := twinsOf(t, plenty)
	p.mustBeShut()
	p.mustOpen(api.Schema{}, api.ErrEmpty)
	p.mustBeShut()
	p.mustOpen(ints, api.OK)
	p.mustClose(true, api.OK)
	p.mustBeShut()
	p.mustOpen(ints, api.OK)
	p.do(shortScript()...)
	p.mustClose(true, api.OK)
	p.mustBeShut()
	p.mustOpen(ints, api.OK)
	p.mustClose(false, api.OK)
	p.mustBeShut()
	p.mustRead()
}

// TestAppendRefused: P20.1: each error of the writer's Append: the bytes are as they were, and it stays open.
func TestAppendRefused(t *testing.T) {
	p := begun(t, plenty, ints)
	for _, one := range allRefusedRows() {
		must(t, "Change", p.change(one.s), api.OK)
		p.mustAppend(one.l, one.want)
		if !p.f.Opened() {
			t.Fatalf("%d: it is not open any more", one.want)
		}
		p.do(shortScript()[0])
	}
	p.mustRead()
	p.mustClose(true, api.OK)
}

// TestAppendKinds: P20.1: rows of each kind of value, under the longest schemas, as many and as long as may be.
func TestAppendKinds(t *testing.T) {
	p := begun(t, maxQuota, ints)
	for range 3 {
		p.do(script()...)
		p.mustRead()
	}
	p.mustClose(true, api.OK)
	p.mustRead()
}

// TestNoSpace: P20.1: beyond the quota: ErrNoSpace, the bytes are as they were, it stays open; what needs fewer is taken still; a Close has no space for an index.
func TestNoSpace(t *testing.T) {
	whole := len(written(t, shortScript()...).Bytes())
	long := []api.Row{values(number(1), text(strings.ToValidUTF8(string(mixedBytes(4, 1000, 0)), "?")))}
	for quota := range whole + 40 {
		p := begun(t, quota, ints)
		for _, one := range shortScript() {
			must(t, "Change", p.change(one.s), api.OK)
			if e := p.append(one.l); e != api.OK && e != api.ErrNoSpace || !p.f.Opened() {
				t.Fatalf("quota %d: %d", quota, e)
			}
			must(t, "Change", p.change(two), api.OK)
			p.mustAppend(long, api.ErrNoSpace)
		}
		must(t, "Sync", p.sync(), api.OK)
		p.mustRead()
		full := len(p.f.Bytes())
		is, e := p.close()
		if e != api.OK || is != (len(p.f.Bytes()) > full) {
			t.Fatalf("quota %d: Close: %v, %d, %d bytes more", quota, is, e, len(p.f.Bytes())-full)
		}
		p.mustRead()
	}
}

// TestChange: P20.1: a schema that may not be is refused, and the one that it has stays; another one holds from there on.
func TestChange(t *testing.T) {
	p := begun(t, plenty, ints)
	p.mustAppend(numbers(1), api.OK)
	for _, one := range refusedSchemas() {
		must(t, "Change", p.change(one.s), one.want)
		p.mustAppend(numbers(2), api.OK)
	}
	before := p.f.Bytes()
	for _, s := range []api.Schema{two, texts, ints, floats, two} {
		must(t, "Change", p.change(s), api.OK)
	}
	if !bytes.Equal(p.f.Bytes(), before) {
		t.Fatalf("Change wrote something")
	}
	p.mustAppend(numbers(3), api.ErrType)
	p.mustAppend([]api.Row{values(number(3), text("three"))}, api.OK)
	must(t, "Change", p.change(ints), api.OK)
	p.mustAppend(numbers(4), api.OK)
	l, e := p.rows()
	if n := len(l); e != api.OK || l[n-3].Number != 0 || l[n-2].Number != 1 || l[n-1].Number != 2 {
		t.Fatalf("%s, %d", toldText(l...), e)
	}
	p.mustRead()
}

// TestSync: P20.1: what was synced is there behind a crash, what was not may be lost.
func TestSync(t *testing.T) {
	for n := range len(shortScript()) {
		p := begun(t, plenty, ints)
		p.do(shortScript()[:n]...)
		must(t, "Sync", p.sync(), api.OK)
		synced := p.f.Bytes()
		p.do(shortScript()[n:]...)
		must(t, "Fail", p.fail(0, 0), api.OK)
		must(t, "Change", p.change(ints), api.OK)
		p.mustAppend(numbers(9), api.ErrPower)
		p.mustBeDown()
		if !bytes.Equal(p.f.Bytes(), synced) {
			t.Fatalf("%d appends were synced: %d bytes, want %d", n, len(p.f.Bytes()), len(synced))
		}
		must(t, "Start", p.start(), api.OK)
		p.mustOpen(ints, api.OK)
		if len(p.log) != n {
			t.Fatalf("%d appends were synced, and %d are there", n, len(p.log))
		}
		p.mustRead()
	}
}

// TestSyncDown: P20.1: a writer whose device went down by itself: ErrDown of Sync, of Append and of Close; then the file is not open. (By the file's own calls power fails in deeds alone, and Sync is none.)
func TestSyncDown(t *testing.T) {
	for _, call := range []string{"Sync", "Append", "Close"} {
		f := written(t, shortScript()...)
		must(t, "Fail", f.Fail(0, 0), api.OK)
		must(t, "Cut", f.Cut(0), api.ErrPower)
		if !f.Opened() {
			t.Fatalf("it is not open, and its writer is")
		}
		must(t, "Append", f.Append(nil), api.ErrEmpty)
		must(t, "Change", f.Change(ints), api.OK)
		var e api.Errno
		switch call {
		case "Sync":
			e = f.Sync()
		case "Append":
			e = f.Append(numbers(1))
		case "Close":
			_, e = f.Close()
		}
		must(t, call, e, api.ErrDown)
		if f.Opened() || f.Change(ints) != api.ErrState || f.Damage(0, 5) != api.ErrRange {
			t.Fatalf("behind %s: it is open still", call)
		}
		must(t, "Open", f.Open(ints), api.ErrDown)
		must(t, "Start", f.Start(), api.OK)
		must(t, "Open", f.Open(ints), api.OK)
	}
}

// TestClose: P20.1: whether an index was written: not behind one that is there already; the file is not open, and all of it lasts.
func TestClose(t *testing.T) {
	p := begun(t, plenty, ints)
	for _, one := range script() {
		p.do(one)
		p.mustClose(true, api.OK)
		if lastOf(p.f.Bytes()).f.Kind != 3 {
			t.Fatalf("no index at the end")
		}
		p.mustBeShut()
		p.mustOpen(one.s, api.OK)
		p.mustClose(false, api.OK)
		p.mustBeShut()
		p.mustRead()
		p.mustOpen(two, api.OK)
	}
}

// TestCloseLasts: P20.1: what stood there at a Close is there behind a crash, with its index and, where there was no space for one, without.
func TestCloseLasts(t *testing.T) {
	whole := written(t, shortScript()...).Bytes()
	for _, quota := range []int{len(whole), len(whole) + 5, plenty} {
		p := begun(t, quota, ints)
		p.do(shortScript()...)
		p.mustClose(quota == plenty, api.OK)
		kept := p.f.Bytes()
		p.mustOpen(ints, api.OK)
		must(t, "Fail", p.fail(0, 0), api.OK)
		if e := p.append(numbers(1)); e != api.ErrPower && e != api.ErrNoSpace {
			t.Fatalf("Append: %d", e)
		}
		if !bytes.Equal(p.f.Bytes(), kept) {
			t.Fatalf("%d bytes, want %d", len(p.f.Bytes()), len(kept))
		}
	}
}
