package file_test

import (
	"math"
	"slices"
	"testing"

	"gabion/api"
)

// act is one call of a crash's script; "" is an append.
type act struct {
	call string
	step
}

// crashScript are appends under several schemas, with a sync and a close among them.
func crashScript() []act {
	l := shortScript()
	return []act{
		{"", l[0]}, {"", l[1]}, {"sync", step{}}, {"", l[2]}, {"", l[3]}, {"close", step{}}, {"", l[4]}, {"", l[5]}, {"close", step{}}, {"", l[0]},
	}
}

// play makes calls, and opens the file where it is not; it ends at the first one in which power fails.
func (p *twins) play(acts []act) api.Errno {
	p.t.Helper()
	for _, one := range acts {
		if !p.open {
			if e := p.openUnder(ints); e != api.OK {
				return e
			}
		}
		e := api.OK
		switch one.call {
		case "sync":
			e = p.sync()
		case "close":
			_, e = p.close()
		default:
			must(p.t, "Change", p.change(one.s), api.OK)
			e = p.append(one.l)
		}
		if e != api.OK {
			return e
		}
	}
	return api.OK
}

// TestCrashEverywhere: P0.2: power fails behind each byte of a script, with none, some or all of what was not synced kept: behind the next opening there are the first appends, all that were synced; it goes on from there as if the others had never been.
func TestCrashEverywhere(t *testing.T) {
	acts := crashScript()
	whole := twinsOf(t, plenty)
	must(t, "the script", whole.play(acts), api.OK)
	size := len(whole.f.Bytes())
	lost, torn := 0, 0
	for after := range size {
		for _, keep := range []int{0, 20, math.MaxInt} {
			p := twinsOf(t, plenty)
			must(t, "Fail", p.fail(after, keep), api.OK)
			must(t, "the script", p.play(acts), api.ErrPower)
			appends := len(p.log)
			p.mustBeDown()
			must(t, "Start", p.start(), api.OK)
			was := len(p.f.Bytes())
			p.mustOpen(two, api.OK) // asks what is kept
			lost += appends - len(p.log)
			torn += min(1, was-len(p.f.Bytes()))
			must(t, "the script", p.play(acts), api.OK)
			p.mustRead()
			if got := replayed(t, p.log); string(got) != string(p.f.Bytes()) {
				t.Fatalf("power failed behind %d bytes, %d were kept: the file is another one than without", after, keep)
			}
		}
	}
	if lost < 100 || torn < 100 {
		t.Fatalf("only %d appends were lost, %d files torn", lost, torn)
	}
}

// TestCrashInRepair: P0.2: power fails behind each byte, and then again in each opening that repairs, three times: what is kept is the same.
func TestCrashInRepair(t *testing.T) {
	acts := crashScript()
	whole := twinsOf(t, plenty)
	must(t, "the script", whole.play(acts), api.OK)
	again := 0
	for after := range len(whole.f.Bytes()) {
		for _, keep := range []int{3, math.MaxInt} {
			p := twinsOf(t, plenty)
			must(t, "Fail", p.fail(after, keep), api.OK)
			must(t, "the script", p.play(acts), api.ErrPower)
			for _, kept := range []int{math.MaxInt, 5, 0} {
				must(t, "Start", p.start(), api.OK)
				must(t, "Fail", p.fail(0, kept), api.OK)
				if p.openUnder(ints) == api.OK { // nothing is to be cut
					must(t, "Change", p.change(ints), api.OK)
					p.mustAppend(numbers(5), api.ErrPower)
				} else {
					again++
				}
				p.mustBeDown()
			}
			must(t, "Start", p.start(), api.OK)
			p.mustOpen(ints, api.OK)
			p.mustRead()
			p.do(shortScript()...)
			p.mustRead()
		}
	}
	if again < 300 {
		t.Fatalf("power failed in only %d repairs", again)
	}
}

// TestCrashAgainAndAgain: P0.2: power fails many times in one file's life, each time behind some bytes more: what was synced is always there, and what is there goes on.
func TestCrashAgainAndAgain(t *testing.T) {
	for seed := range uint64(12) {
		p := twinsOf(t, maxQuota)
		crashes := 0
		for i := range uint64(30) {
			m := mixed(seed<<16 + i)
			must(t, "Fail", p.fail(int(m%200), int(m>>16%100)), api.OK)
			e := p.play(slices.Concat(crashScript()[m>>32%10:], crashScript()))
			if e == api.ErrPower {
				crashes++
				must(t, "Start", p.start(), api.OK)
			}
		}
		must(t, "Fail", p.fail(math.MaxInt, 0), api.OK)
		if !p.open {
			p.mustOpen(ints, api.OK)
		}
		p.mustRead()
		if crashes < 15 {
			t.Fatalf("only %d crashes", crashes)
		}
	}
}

// TestCrashBlocks: P0.2: power fails in long appends, each of which has a schema frame, too: never is one there in part, nor its schema frame alone.
func TestCrashBlocks(t *testing.T) {
	for _, one := range blocks() {
		size := len(written(t, step{two, []api.Row{values(number(1), text("first"))}}, one).Bytes())
		for k := range 60 {
			after := k * size / 60
			p := begun(t, plenty, two)
			must(t, "Fail", p.fail(after, math.MaxInt), api.OK)
			if p.append([]api.Row{values(number(1), text("first"))}) == api.OK {
				must(t, "Change", p.change(one.s), api.OK)
				p.mustAppend(one.l, api.ErrPower)
			}
			must(t, "Start", p.start(), api.OK)
			p.mustOpen(one.s, api.OK)
			if b := p.f.Bytes(); len(b) > 0 && lastOf(b).f.Kind != 2 {
				t.Fatalf("power failed behind %d bytes of %d: frames %s", after, size, kindsOf(b))
			}
			p.mustAppend(one.l, api.OK)
			p.mustRead()
		}
	}
}

// TestCrashByHand: P0.2: three appends, the first one synced; power fails in the fourth: of the two others as many are there as were kept.
func TestCrashByHand(t *testing.T) {
	sizes := []int{0}
	for n := range 4 {
		sizes = append(sizes, len(written(t, shortScript()[:1+n]...).Bytes()))
	}
	for _, x := range []struct{ keep, rows int }{{0, 2}, {1, 2}, {sizes[2] - sizes[1] - 1, 2}, {sizes[2] - sizes[1], 3}, {sizes[3] - sizes[1] - 1, 3}, {sizes[3] - sizes[1], 5}, {sizes[4] - sizes[1] - 1, 5}, {sizes[4] - sizes[1], 5}, {math.MaxInt, 5}} {
		f := written(t, shortScript()[0])
		must(t, "Sync", f.Sync(), api.OK)
		for _, one := range shortScript()[1:3] {
			must(t, "Change", f.Change(one.s), api.OK)
			must(t, "Append", f.Append(one.l), api.OK)
		}
		must(t, "Fail", f.Fail(sizes[4]-sizes[3]-1, x.keep), api.OK)
		must(t, "Append", f.Append(shortScript()[3].l), api.ErrPower)
		must(t, "Start", f.Start(), api.OK)
		must(t, "Open", f.Open(ints), api.OK)
		if l, e := f.Rows(); len(l) != x.rows || e != api.OK {
			t.Fatalf("%d bytes kept: %d rows, %d, want %d", x.keep, len(l), e, x.rows)
		}
	}
}
