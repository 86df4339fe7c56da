package file_test

import (
	"bytes"
	"math"
	"testing"

	"gabion/api"
	"gabion/file"
)

// TestNew: P20.1: a quota that the device refuses: no file; else an empty one, that is not open.
func TestNew(t *testing.T) {
	for _, quota := range []int{-1, -maxQuota, maxQuota + 1, math.MinInt, math.MaxInt} {
		if f, e := file.New(quota); f != nil || e != api.ErrArg {
			t.Fatalf("New(%d): a file: %v, %d", quota, f != nil, e)
		}
	}
	for _, quota := range []int{0, 1, 1000, maxQuota} {
		f, e := file.New(quota)
		if f == nil || e != api.OK || f.Opened() || len(f.Bytes()) != 0 || f.Counted() != 0 || len(f.Salvage()) != 0 {
			t.Fatalf("New(%d): %d, or it is not an empty one", quota, e)
		}
		p := twinsOf(t, quota)
		p.mustBeShut()
		p.reads()
		l, e := p.rows()
		mustTell(t, "Rows", l, e, nil, api.OK)
		must(t, "Start", p.start(), api.ErrState)
	}
}

// TestNewQuota: P20.1: the quota is the device's: what goes beyond it is refused, what does not is taken.
func TestNewQuota(t *testing.T) {
	whole := written(t, shortScript()[:1]...).Bytes()
	for quota := range len(whole) + 3 {
		p := begun(t, quota, ints)
		want := api.ErrNoSpace
		if quota >= len(whole) {
			want = api.OK
		}
		p.mustAppend(numbers(1, 2), want)
	}
}

// TestOpen: P20.1: of a file of no bytes, whole, with an index and without: it is open, and nothing is changed.
func TestOpen(t *testing.T) {
	some := written(t, script()...)
	for _, b := range [][]byte{nil, some.Bytes(), closed(t, some).Bytes()} {
		for _, s := range []api.Schema{ints, texts, floats, nested, wide(16), longSchema(1024)} {
			p := oddOf(t, b)
			p.mustOpen(s, api.OK)
			if !p.f.Opened() || !bytes.Equal(p.f.Bytes(), b) {
				t.Fatalf("it is not open, or changed")
			}
		}
	}
}

// TestOpenTwice: P20.1: ErrState of a file that is open, whatever the schema is; it stays open under the schema that it was opened under.
func TestOpenTwice(t *testing.T) {
	p := begun(t, plenty, ints)
	for _, one := range shortScript()[:2] {
		for _, s := range []api.Schema{ints, two, {}, wide(17), longSchema(1025)} {
			p.mustOpen(s, api.ErrState)
		}
		p.mustAppend(one.l, api.OK)
	}
	p.mustAppend([]api.Row{values(number(1), text("x"))}, api.ErrType)
	p.mustClose(true, api.OK)
	p.mustOpen(two, api.OK)
	p.mustOpen(two, api.ErrState)
	p.mustRead()
}

// TestOpenRefused: P20.1: a schema that may not be: that error, also where the file is down, torn or damaged; it is not open, and nothing is cut.
func TestOpenRefused(t *testing.T) {
	whole := written(t, shortScript()...).Bytes()
	damaged := bytes.Clone(whole)
	damaged[4] ^= 1
	for _, one := range refusedSchemas() {
		for _, b := range [][]byte{nil, whole, damaged, whole[:len(whole)-1], row(5, 30)} {
			p := oddOf(t, b)
			p.mustOpen(one.s, one.want)
			p.mustBeShut()
			q := downOf(t, b)
			q.mustOpen(one.s, one.want)
			q.mustBeDown()
			if !bytes.Equal(p.f.Bytes(), b) || !bytes.Equal(q.f.Bytes(), b) {
				t.Fatalf("%d: a refused Open changed the file", one.want)
			}
		}
	}
}

// TestOpenDown: P20.1: of a file that is down ErrDown, whatever stands there; behind Start it is opened.
func TestOpenDown(t *testing.T) {
	whole := written(t, shortScript()...).Bytes()
	for _, b := range [][]byte{nil, whole, whole[1:], whole[:len(whole)-1], row(5, 30)} {
		p := downOf(t, b)
		p.mustBeDown()
		p.mustOpen(two, api.ErrDown)
		if !bytes.Equal(p.f.Bytes(), b) {
			t.Fatalf("a refused Open changed the file")
		}
		must(t, "Start", p.start(), api.OK)
		if e := p.openUnder(ints); e == api.ErrDown || (e == api.OK) != p.f.Opened() {
			t.Fatalf("of a file that is up: %d, it is open: %v", e, p.f.Opened())
		}
	}
}

// TestOpenTorn: P20.1: the first bytes of a whole file, up to each place: it is opened, has the rows of the data frames that are whole there, and goes on from there.
func TestOpenTorn(t *testing.T) {
	f := written(t, shortScript()...)
	whole := closed(t, f).Bytes()
	all, _ := f.Rows()
	for n := range len(whole) + 1 {
		p := oddOf(t, whole[:n])
		kept := int64(0)
		for _, one := range framesOf(whole) {
			if one.f.Kind == 2 && one.to <= n {
				kept += int64(one.f.Rows)
			}
		}
		p.mustOpen(ints, api.OK)
		l, e := p.rows()
		mustTell(t, "Rows", l, e, all[:kept], api.OK)
		p.mustAppend(numbers(77), api.OK)
		if l, e = p.from(kept); len(l) != 1 || e != api.OK || rowsText(numbers(77)) != rowsText([]api.Row{l[0].Row}) {
			t.Fatalf("cut at %d: From: %s, %d", n, brief(toldText(l...)), e)
		}
		p.mustClose(true, api.OK)
	}
}

// TestOpenDamaged: P20.1: a file that is damaged ahead of a frame: ErrDamaged, it is not open, and nothing is cut; within the last frame: that goes.
func TestOpenDamaged(t *testing.T) {
	whole := written(t, shortScript()...).Bytes()
	last := lastOf(whole)
	for at := range whole {
		b := bytes.Clone(whole)
		b[at] ^= 64
		p := oddOf(t, b)
		if at < last.from {
			p.mustOpen(ints, api.ErrDamaged)
			p.mustOpen(two, api.ErrDamaged)
			p.mustBeShut()
			if !bytes.Equal(p.f.Bytes(), b) {
				t.Fatalf("byte %d: a refused Open changed the file", at)
			}
			continue
		}
		p.mustOpen(ints, api.OK)
		p.mustAppend(numbers(5), api.OK)
	}
}

// TestOpenNoise: P20.1: of bytes without frames nothing is kept, and the file begins there.
func TestOpenNoise(t *testing.T) {
	for k := range uint64(50) {
		p := oddOf(t, mixedBytes(k, int(k)*13, k%7))
		p.mustOpen(ints, api.OK)
		if len(p.f.Bytes()) != 0 {
			t.Fatalf("%d bytes are left", len(p.f.Bytes()))
		}
		p.mustAppend(numbers(1), api.OK)
		if got := kindsOf(p.f.Bytes()); got != "SD" {
			t.Fatalf("frames: %s", got)
		}
	}
}

// TestOpenPower: P20.1, P20.2: power that fails in an Open that repairs: ErrPower, and it is not open; behind Start it is opened as if that had never been.
func TestOpenPower(t *testing.T) {
	whole := written(t, shortScript()...).Bytes()
	for _, tail := range [][]byte{{0}, {5}, row(5, 50), encoded(schemaFrame(4, texts))} {
		for _, keep := range []int{0, 1, math.MaxInt} {
			p := oddOf(t, join(whole, tail))
			must(t, "Fail", p.fail(0, keep), api.OK)
			p.mustOpen(ints, api.ErrPower)
			p.mustBeDown()
			if len(p.f.Bytes()) != len(whole)+len(tail) {
				t.Fatalf("%d bytes", len(p.f.Bytes()))
			}
			must(t, "Start", p.start(), api.OK)
			p.mustBeShut()
			p.mustOpen(ints, api.OK)
			if !bytes.Equal(p.f.Bytes(), whole) {
				t.Fatalf("%d bytes, want %d", len(p.f.Bytes()), len(whole))
			}
			p.do(shortScript()...)
		}
	}
}

// TestOpenIsNoDeed: P20.2: an Open that cuts nothing, a Change and a Sync are none: power that is bound to fail does not.
func TestOpenIsNoDeed(t *testing.T) {
	for _, b := range [][]byte{nil, written(t, shortScript()...).Bytes()} {
		p := oddOf(t, b)
		must(t, "Fail", p.fail(0, 0), api.OK)
		p.mustOpen(ints, api.OK)
		must(t, "Change", p.change(two), api.OK)
		must(t, "Sync", p.sync(), api.OK)
		p.mustAppend(nil, api.ErrEmpty)
		p.mustAppend([]api.Row{values(number(1), text(""))}, api.ErrPower)
		p.mustBeDown()
	}
}
