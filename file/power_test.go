package file_test

import (
	"math"
	"testing"

	"gabion/api"
)

// TestFailStart: P20.2: each error of the device's Fail and Start, of a file that is open, that is not, and that is down.
func TestFailStart(t *testing.T) {
	p := twinsOf(t, plenty)
	ask := func() {
		t.Helper()
		for _, x := range [][2]int{{-1, 0}, {0, -1}, {-1, -1}, {math.MinInt, 5}, {5, math.MinInt}} {
			must(t, "Fail", p.fail(x[0], x[1]), api.ErrArg)
		}
		must(t, "Start", p.start(), api.ErrState)
		must(t, "Fail", p.fail(math.MaxInt, math.MaxInt), api.OK)
	}
	ask()
	p.mustOpen(ints, api.OK)
	ask()
	p.do(shortScript()...)
	ask()
	p.mustClose(true, api.OK)
	ask()
	p.mustOpen(ints, api.OK)
	must(t, "Fail", p.fail(0, 0), api.OK)
	p.mustAppend(numbers(1), api.ErrPower)
	must(t, "Fail", p.fail(0, 0), api.ErrDown)
	must(t, "Fail", p.fail(-1, 0), api.ErrDown)
	must(t, "Start", p.start(), api.OK)
	ask()
	p.mustRead()
}

// TestFailForgets: P20.2: what an earlier Fail said is forgotten.
func TestFailForgets(t *testing.T) {
	p := begun(t, plenty, ints)
	must(t, "Fail", p.fail(0, 0), api.OK)
	must(t, "Fail", p.fail(math.MaxInt, 0), api.OK)
	p.do(shortScript()...)
	must(t, "Fail", p.fail(1000, 0), api.OK)
	must(t, "Fail", p.fail(0, 0), api.OK)
	p.mustClose(false, api.ErrPower)
	p.mustBeDown()
}

// TestPowerInAppend: P20.1, P20.2: power that fails behind each byte of an append, with all of what is written kept, some, none: ErrPower, and it is not open any more; behind Start it is read, opened, and goes on.
func TestPowerInAppend(t *testing.T) {
	for k, one := range shortScript() {
		size := len(written(t, shortScript()[:k+1]...).Bytes())
		if k > 0 {
			size -= len(written(t, shortScript()[:k]...).Bytes())
		}
		for after := range size + 1 {
			for _, keep := range []int{0, 7, math.MaxInt} {
				p := begun(t, plenty, ints)
				p.do(shortScript()[:k]...)
				must(t, "Sync", p.sync(), api.OK)
				must(t, "Change", p.change(one.s), api.OK)
				must(t, "Fail", p.fail(after, keep), api.OK)
				if after == size {
					p.mustAppend(one.l, api.OK)
					p.mustClose(false, api.ErrPower)
				} else {
					p.mustAppend(one.l, api.ErrPower)
				}
				p.mustBeDown()
				must(t, "Start", p.start(), api.OK)
				p.mustBeShut()
				p.reads()
				p.mustOpen(one.s, api.OK)
				p.mustAppend(one.l, api.OK)
				p.mustRead()
			}
		}
	}
}

// TestPowerInClose: P20.1, P20.2: power that fails behind each byte of an index: ErrPower, it is not open any more, and no index was written.
func TestPowerInClose(t *testing.T) {
	f := written(t, shortScript()...)
	size := len(f.Bytes())
	size = len(closed(t, f).Bytes()) - size
	for after := range size + 1 {
		for _, keep := range []int{0, 7, math.MaxInt} {
			p := begun(t, plenty, ints)
			p.do(shortScript()...)
			must(t, "Sync", p.sync(), api.OK)
			must(t, "Fail", p.fail(after, keep), api.OK)
			if after == size {
				p.mustClose(true, api.OK)
				p.mustRead()
				continue
			}
			p.mustClose(false, api.ErrPower)
			p.mustBeDown()
			must(t, "Start", p.start(), api.OK)
			p.mustBeShut()
			p.reads()
			p.mustOpen(ints, api.OK)
			p.mustRead()
			p.mustClose(true, api.OK)
			p.mustRead()
		}
	}
}

// TestPowerNotInSync: P20.2: in a Sync power does not fail, as it is no deed; the next deed is where it fails.
func TestPowerNotInSync(t *testing.T) {
	p := begun(t, plenty, ints)
	p.do(shortScript()...)
	must(t, "Fail", p.fail(0, 0), api.OK)
	must(t, "Sync", p.sync(), api.OK)
	must(t, "Sync", p.sync(), api.OK)
	p.mustRead()
	p.mustClose(false, api.ErrPower)
	p.mustBeDown()
	must(t, "Start", p.start(), api.OK)
	p.mustOpen(ints, api.OK)
	p.mustRead()
}
