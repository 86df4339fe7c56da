package dev_test

import (
	"bytes"
	"math"
	"testing"

	"gabion/api"
	"gabion/dev"
)

// mixed is the n-th of a row of well mixed words, the same ones in every run.
func mixed(n uint64) uint64 {
	z := (n + 1) * 0x9e3779b97f4a7c15
	z = (z ^ z>>30) * 0xbf58476d1ce4e5b9
	z = (z ^ z>>27) * 0x94d049bb133111eb
	return z ^ z>>31
}

// mixedBytes are n mixed bytes.
func mixedBytes(seed uint64, n int) []byte {
	b := make([]byte, n)
	for i := range b {
		b[i] = byte(mixed(seed<<24 + uint64(i)))
	}
	return b
}

// count are n bytes, 1, 2, 3 and so on.
func count(n int) []byte {
	b := make([]byte, n)
	for i := range b {
		b[i] = byte(i + 1)
	}
	return b
}

// brief is a list's beginning and length, as whole lists would hide what is wrong with them.
func brief(b []byte) (int, []byte) { return len(b), b[:min(len(b), 24)] }

// made is a new file.
func made(t *testing.T, quota int) *dev.Dev {
	t.Helper()
	d, e := dev.New(quota)
	if d == nil || e != api.OK {
		t.Fatalf("New(%d): %v, %d", quota, d, e)
	}
	return d
}

// must fails where a call was not answered as it must be.
func must(t *testing.T, what string, got, want api.Errno) {
	t.Helper()
	if got != want {
		t.Fatalf("%s: error %d, want %d", what, got, want)
	}
}

// stand is all that a file tells of itself.
type stand struct {
	all                             string
	up                              bool
	quota, synced, counted, written int
}

func standOf(t *testing.T, d *dev.Dev) stand {
	t.Helper()
	all := d.All()
	if d.Len() != len(all) {
		t.Fatalf("Len is %d, and there are %d bytes", d.Len(), len(all))
	}
	return stand{string(all), d.Up(), d.Quota(), d.Synced(), d.Counted(), d.Written()}
}

func sameStand(t *testing.T, what string, d *dev.Dev, want stand) {
	t.Helper()
	got := standOf(t, d)
	if got == want {
		return
	}
	gotLen, gotBegin := brief([]byte(got.all))
	wantLen, wantBegin := brief([]byte(want.all))
	t.Fatalf("%s: %d bytes (%x ..), up %t, quota %d, synced %d, counted %d, written %d,\nwant %d bytes (%x ..), up %t, quota %d, synced %d, counted %d, written %d", what,
		gotLen, gotBegin, got.up, got.quota, got.synced, got.counted, got.written,
		wantLen, wantBegin, want.up, want.quota, want.synced, want.counted, want.written)
}

// word is a file by the chapter's words, by another way: each byte knows whether it is synced, and power is bound to fail in the place of the deed of a number that is counted from New on.
type word struct {
	cells   []cell
	up      bool
	quota   int
	counted int
	written int
	bound   bool
	failsAt uint64
	keep    int
}

type cell struct {
	v      byte
	synced bool
}

func (w *word) stand() stand {
	s := stand{up: w.up, quota: w.quota, counted: w.counted, written: w.written}
	var all []byte
	for _, c := range w.cells {
		all = append(all, c.v)
		if c.synced {
			s.synced++
		}
	}
	s.all = string(all)
	return s
}

// clone is another one of the same.
func (w *word) clone() *word {
	c := *w
	c.cells = append([]cell(nil), w.cells...)
	return &c
}

// power tells whether power fails in the next deed's place, and lets it.
func (w *word) power() bool {
	if !w.bound || uint64(w.written) < w.failsAt {
		w.written++
		return false
	}
	var kept []cell
	for _, c := range w.cells {
		if !c.synced && w.keep == 0 {
			break
		}
		if !c.synced {
			w.keep--
		}
		kept = append(kept, c)
	}
	w.cells, w.up, w.bound = kept, false, false
	return true
}

func (w *word) write(b []byte) api.Errno {
	if !w.up {
		return api.ErrDown
	}
	if len(b) != 0 && len(w.cells)+len(b) > w.quota {
		return api.ErrNoSpace
	}
	for _, c := range b {
		if w.power() {
			return api.ErrPower
		}
		w.cells = append(w.cells, cell{v: c})
	}
	return api.OK
}

func (w *word) sync() api.Errno {
	if !w.up {
		return api.ErrDown
	}
	for i := range w.cells {
		w.cells[i].synced = true
	}
	return api.OK
}

func (w *word) cut(n int) api.Errno {
	if !w.up {
		return api.ErrDown
	}
	if !(0 <= n && n <= len(w.cells)) {
		return api.ErrRange
	}
	if w.power() {
		return api.ErrPower
	}
	w.cells = append([]cell(nil), w.cells[:n]...)
	return api.OK
}

func (w *word) read(at, n int) ([]byte, api.Errno) {
	if !(0 <= at && at <= len(w.cells)) || n < 0 {
		return nil, api.ErrRange
	}
	var b []byte
	for _, c := range w.cells[at:] {
		if len(b) == n {
			break
		}
		b = append(b, c.v)
		w.counted++
	}
	return b, api.OK
}

func (w *word) fail(after, keep int) api.Errno {
	if !w.up {
		return api.ErrDown
	}
	if after < 0 || keep < 0 {
		return api.ErrArg
	}
	w.bound, w.failsAt, w.keep = true, uint64(w.written)+uint64(after), keep
	return api.OK
}

func (w *word) start() api.Errno {
	if w.up {
		return api.ErrState
	}
	w.up = true
	return api.OK
}

func (w *word) damage(at int, v byte) api.Errno {
	for i := range w.cells {
		if i == at {
			w.cells[i].v = v
			return api.OK
		}
	}
	return api.ErrRange
}

func (w *word) tail(b []byte) api.Errno {
	if len(w.cells)+len(b) > 2*1048576 {
		return api.ErrLong
	}
	for _, c := range b {
		w.cells = append(w.cells, cell{v: c})
	}
	for i := range w.cells {
		w.cells[i].synced = true
	}
	return api.OK
}

// TestExamples: the chapter's examples, one behind the other.
func TestExamples(t *testing.T) {
	d := made(t, 10)
	must(t, "Write(1 2 3)", d.Write([]byte{1, 2, 3}), api.OK)
	must(t, "Sync", d.Sync(), api.OK)
	must(t, "Write(4 5)", d.Write([]byte{4, 5}), api.OK)
	sameStand(t, "first line", d, stand{"\x01\x02\x03\x04\x05", true, 10, 3, 0, 5})
	must(t, "Write of 6 bytes", d.Write(make([]byte, 6)), api.ErrNoSpace)
	sameStand(t, "second line", d, stand{"\x01\x02\x03\x04\x05", true, 10, 3, 0, 5})
	must(t, "Fail(2, 1)", d.Fail(2, 1), api.OK)
	must(t, "Write(6 7 8)", d.Write([]byte{6, 7, 8}), api.ErrPower)
	sameStand(t, "third line", d, stand{"\x01\x02\x03\x04", false, 10, 3, 0, 7})
	must(t, "Write(9)", d.Write([]byte{9}), api.ErrDown)
	must(t, "Cut(0)", d.Cut(0), api.ErrDown)
	must(t, "Sync", d.Sync(), api.ErrDown)
	must(t, "Fail(0, 0)", d.Fail(0, 0), api.ErrDown)
	must(t, "Start", d.Start(), api.OK)
	must(t, "Start again", d.Start(), api.ErrState)
	must(t, "Cut(2)", d.Cut(2), api.OK)
	sameStand(t, "fifth line", d, stand{"\x01\x02", true, 10, 2, 0, 8})
	must(t, "Cut(3)", d.Cut(3), api.ErrRange)
	sameRead(t, d, 1, 9, []byte{2}, api.OK)
	sameRead(t, d, 3, 1, nil, api.ErrRange)
	sameRead(t, d, 2, 0, nil, api.OK)
	sameStand(t, "sixth line", d, stand{"\x01\x02", true, 10, 2, 1, 8})
	must(t, "Fail(0, 5)", d.Fail(0, 5), api.OK)
	must(t, "Cut(0)", d.Cut(0), api.ErrPower)
	sameStand(t, "seventh line", d, stand{"\x01\x02", false, 10, 2, 1, 8})
	must(t, "Start", d.Start(), api.OK)
	must(t, "Damage(1, 77)", d.Damage(1, 77), api.OK)
	must(t, "Damage(2, 0)", d.Damage(2, 0), api.ErrRange)
	must(t, "Tail of ten bytes", d.Tail(count(10)), api.OK)
	sameStand(t, "last line", d, stand{"\x01\x4d" + string(count(10)), true, 10, 12, 1, 8})
}

func sameRead(t *testing.T, d *dev.Dev, at, n int, want []byte, wantE api.Errno) {
	t.Helper()
	if b, e := d.Read(at, n); !bytes.Equal(b, want) || e != wantE {
		t.Fatalf("Read(%d, %d) = %x, %d, want %x, %d", at, n, b, e, want, wantE)
	}
}

// TestNew: P5.1 at the edges of the quota.
func TestNew(t *testing.T) {
	for _, quota := range []int{-1, -1048576, math.MinInt, 1048577, 2097152, 1 << 32, math.MaxInt} {
		if d, e := dev.New(quota); d != nil || e != api.ErrArg {
			t.Errorf("New(%d): %v, %d", quota, d, e)
		}
	}
	for _, quota := range []int{0, 1, 10, 1048575, 1048576} {
		d := made(t, quota)
		sameStand(t, "New", d, stand{up: true, quota: quota})
		must(t, "Start of a new one", d.Start(), api.ErrState)
		b := make([]byte, quota)
		must(t, "Write of the whole quota", d.Write(b), api.OK) // of power that fails there is none
		must(t, "Write of one byte more", d.Write([]byte{1}), api.ErrNoSpace)
		must(t, "Write of nothing", d.Write(nil), api.OK)
		sameStand(t, "full", d, stand{string(b), true, quota, 0, 0, quota})
	}
}

// TestWrite: P5.3 at the edges of the quota's rest: nothing of a writing that is refused is done.
func TestWrite(t *testing.T) {
	for quota := range 9 {
		for first := range quota + 1 {
			for second := range 12 {
				d := made(t, quota)
				a, b := count(first), mixedBytes(1, second)
				must(t, "first Write", d.Write(a), api.OK)
				sameStand(t, "first", d, stand{string(a), true, quota, 0, 0, first})
				want, e := stand{string(a) + string(b), true, quota, 0, 0, first + second}, api.OK
				if first+second > quota && second > 0 {
					want, e = stand{string(a), true, quota, 0, 0, first}, api.ErrNoSpace
				}
				must(t, "second Write", d.Write(b), e)
				sameStand(t, "second", d, want)
			}
		}
	}
}

// TestWriteRefusedIsNoDeed: P5.2, P5.3, P5.4: what is refused, a writing of nothing, Sync, Read, Damage, Tail and a wrong Fail are no deeds: power that is bound to fail at the next one does not fail there.
func TestWriteRefusedIsNoDeed(t *testing.T) {
	d := made(t, 4)
	must(t, "Write", d.Write(count(3)), api.OK)
	must(t, "Fail", d.Fail(0, 1), api.OK)
	for range 3 {
		must(t, "Write beyond the quota", d.Write(count(2)), api.ErrNoSpace)
		must(t, "Write of nothing", d.Write(nil), api.OK)
		must(t, "Write of nothing", d.Write([]byte{}), api.OK)
		must(t, "Cut beyond the end", d.Cut(4), api.ErrRange)
		must(t, "Cut below 0", d.Cut(-1), api.ErrRange)
		must(t, "Start", d.Start(), api.ErrState)
		must(t, "wrong Fail", d.Fail(-1, 7), api.ErrArg)
		must(t, "wrong Fail", d.Fail(7, -1), api.ErrArg)
		must(t, "Damage", d.Damage(0, 9), api.OK)
		sameRead(t, d, 0, 1, []byte{9}, api.OK)
	}
	sameStand(t, "no deed", d, stand{"\x09\x02\x03", true, 4, 0, 3, 3})
	must(t, "Write", d.Write([]byte{1}), api.ErrPower)
	sameStand(t, "the deed", d, stand{"\x09", false, 4, 0, 3, 3})

	d = made(t, 4)
	must(t, "Fail", d.Fail(0, 0), api.OK)
	must(t, "Tail", d.Tail(count(2)), api.OK)
	must(t, "Sync", d.Sync(), api.OK)
	must(t, "Write", d.Write([]byte{1}), api.ErrPower)
	sameStand(t, "the deed", d, stand{"\x01\x02", false, 4, 2, 0, 0})
}

// TestPowerWithinWrite: P5.2, P5.3: power fails behind each number of deeds, from the first deed to far behind a writing, with none, some, and more bytes kept than there are.
func TestPowerWithinWrite(t *testing.T) {
	for synced := range 4 {
		for loose := range 4 {
			for size := range 5 {
				for _, after := range []int{0, 1, 2, 3, 4, 5, 6, math.MaxInt} {
					for _, keep := range []int{0, 1, 2, 3, 7, 8, 9, math.MaxInt - 1, math.MaxInt} {
						powerWithinWrite(t, synced, loose, size, after, keep)
					}
				}
			}
		}
	}
}

func powerWithinWrite(t *testing.T, synced, loose, size, after, keep int) {
	t.Helper()
	d := made(t, 20)
	b := count(synced + loose + size)
	ahead := synced + loose
	must(t, "Write", d.Write(b[:synced]), api.OK)
	must(t, "Sync", d.Sync(), api.OK)
	must(t, "Write", d.Write(b[synced:ahead]), api.OK)
	must(t, "Fail", d.Fail(after, keep), api.OK)
	if after >= size {
		must(t, "Write ahead of the failure", d.Write(b[ahead:]), api.OK)
		sameStand(t, "ahead of the failure", d, stand{string(b), true, 20, synced, 0, len(b)})
		return
	}
	must(t, "Write at the failure", d.Write(b[ahead:]), api.ErrPower)
	left := synced + min(keep, loose+after)
	sameStand(t, "at the failure", d, stand{string(b[:left]), false, 20, synced, 0, ahead + after})
	must(t, "Write while it is down", d.Write(b), api.ErrDown)
	must(t, "Start", d.Start(), api.OK)
	must(t, "Write behind the failure", d.Write([]byte{99, 98}), api.OK) // power is bound to fail no more
	must(t, "Cut behind the failure", d.Cut(left+1), api.OK)
	sameStand(t, "behind the failure", d, stand{string(b[:left]) + "\x63", true, 20, synced, 0, ahead + after + 3})
}

// TestPowerBehindWrite: P5.2, P5.6: bound to fail just behind a writing, power fails at the first byte of the next one, or in the place of the next Cut.
func TestPowerBehindWrite(t *testing.T) {
	for _, keep := range []int{0, 1, 2, 3, 4, math.MaxInt} {
		for _, next := range []string{"write", "cut", "cut at the end"} {
			d := made(t, 9)
			must(t, "Write", d.Write(count(2)), api.OK)
			must(t, "Sync", d.Sync(), api.OK)
			must(t, "Fail", d.Fail(3, keep), api.OK)
			must(t, "Write", d.Write([]byte{7, 8, 9}), api.OK)
			sameStand(t, "ahead of it", d, stand{"\x01\x02\x07\x08\x09", true, 9, 2, 0, 5})
			e := api.OK
			switch next {
			case "write":
				e = d.Write([]byte{10})
			case "cut":
				e = d.Cut(0)
			default:
				e = d.Cut(5)
			}
			must(t, next, e, api.ErrPower)
			sameStand(t, next, d, stand{"\x01\x02\x07\x08\x09"[:2+min(keep, 3)], false, 9, 2, 0, 5})
		}
	}
}

// TestPowerInCutsPlace: P5.2, P5.4: where power fails in a Cut's place, that is not done; what is lost is what was not synced.
func TestPowerInCutsPlace(t *testing.T) {
	for n := range 6 {
		for _, keep := range []int{0, 1, 2, 3, 4, math.MaxInt} {
			d := made(t, 9)
			must(t, "Write", d.Write(count(3)), api.OK)
			must(t, "Sync", d.Sync(), api.OK)
			must(t, "Write", d.Write([]byte{4, 5}), api.OK)
			must(t, "Fail", d.Fail(1, keep), api.OK)
			must(t, "Cut at the end, a deed", d.Cut(5), api.OK)
			must(t, "Cut", d.Cut(n), api.ErrPower)
			sameStand(t, "behind it", d, stand{string(count(3 + min(keep, 2))), false, 9, 3, 0, 6})
		}
	}
}

// TestCut: P5.4: at 0, at Len and beyond; of what is synced as much stays so as is left.
func TestCut(t *testing.T) {
	for synced := range 5 {
		for n := -2; n < 8; n++ {
			d := made(t, 9)
			must(t, "Write", d.Write(count(synced)), api.OK)
			must(t, "Sync", d.Sync(), api.OK)
			must(t, "Write", d.Write(count(5)[synced:]), api.OK)
			if n < 0 || n > 5 {
				must(t, "Cut", d.Cut(n), api.ErrRange)
				sameStand(t, "no Cut", d, stand{string(count(5)), true, 9, synced, 0, 5})
				continue
			}
			must(t, "Cut", d.Cut(n), api.OK)
			sameStand(t, "Cut", d, stand{string(count(n)), true, 9, min(synced, n), 0, 6})
			must(t, "Write of the rest", d.Write(mixedBytes(2, 9-n)), api.OK)
			sameStand(t, "Write of the rest", d, stand{string(count(n)) + string(mixedBytes(2, 9-n)), true, 9, min(synced, n), 0, 15 - n})
		}
	}
	d := made(t, 9)
	must(t, "Cut of nothing", d.Cut(0), api.OK)
	sameStand(t, "Cut of nothing", d, stand{"", true, 9, 0, 0, 1})
	must(t, "Cut far below", d.Cut(math.MinInt), api.ErrRange)
	must(t, "Cut far beyond", d.Cut(math.MaxInt), api.ErrRange)
}

// TestSync: P5.4: what is synced stays when power fails, what came behind it goes; Sync again takes what was kept.
func TestSync(t *testing.T) {
	d := made(t, 20)
	must(t, "Sync of nothing", d.Sync(), api.OK)
	must(t, "Write", d.Write(count(4)), api.OK)
	must(t, "Sync", d.Sync(), api.OK)
	must(t, "Sync again", d.Sync(), api.OK)
	sameStand(t, "Sync", d, stand{string(count(4)), true, 20, 4, 0, 4})
	must(t, "Write", d.Write([]byte{5, 6, 7}), api.OK)
	must(t, "Fail", d.Fail(0, 2), api.OK)
	must(t, "Write", d.Write([]byte{8}), api.ErrPower)
	must(t, "Sync while it is down", d.Sync(), api.ErrDown)
	sameStand(t, "down", d, stand{string(count(6)), false, 20, 4, 0, 7})
	must(t, "Start", d.Start(), api.OK)
	must(t, "Sync", d.Sync(), api.OK)
	must(t, "Fail", d.Fail(0, 0), api.OK)
	must(t, "Cut", d.Cut(0), api.ErrPower)
	sameStand(t, "all synced", d, stand{string(count(6)), false, 20, 6, 0, 7})
}

// TestKeptIsNotSynced: P5.2: what was kept behind the synced bytes may be lost when power fails again.
func TestKeptIsNotSynced(t *testing.T) {
	d := made(t, 9)
	must(t, "Write", d.Write(count(1)), api.OK)
	must(t, "Sync", d.Sync(), api.OK)
	must(t, "Write", d.Write([]byte{2, 3, 4}), api.OK)
	for left := 4; left > 1; left-- {
		sameStand(t, "ahead", d, stand{string(count(left)), true, 9, 1, 0, 4})
		must(t, "Fail", d.Fail(0, left-2), api.OK)
		must(t, "Write", d.Write([]byte{7}), api.ErrPower)
		must(t, "Start", d.Start(), api.OK)
	}
	sameStand(t, "at last", d, stand{"\x01", true, 9, 1, 0, 4})
}

// TestRead: P5.5: at Len, of none, of more than there are, and wrong places; Counted goes up by what is told alone.
func TestRead(t *testing.T) {
	d := made(t, 9)
	must(t, "Write", d.Write(count(5)), api.OK)
	counted := 0
	places := []int{math.MinInt, -1, 0, 1, 4, 5, 6, 7, 1 << 40, math.MaxInt}
	for _, at := range places {
		for _, n := range places {
			var want []byte
			e := api.ErrRange
			if at >= 0 && at <= 5 && n >= 0 {
				want, e = count(5)[at:], api.OK
				want = want[:min(n, len(want))]
			}
			sameRead(t, d, at, n, want, e)
			counted += len(want)
			sameStand(t, "Read", d, stand{string(count(5)), true, 9, 0, counted, 5})
		}
	}
	must(t, "Fail", d.Fail(0, 4), api.OK)
	must(t, "Cut", d.Cut(0), api.ErrPower)
	sameRead(t, d, 1, 9, []byte{2, 3, 4}, api.OK)
	sameRead(t, d, 5, 0, nil, api.ErrRange)
	sameStand(t, "Read while it is down", d, stand{string(count(4)), false, 9, 0, counted + 3, 5})
	empty := made(t, 0)
	sameRead(t, empty, 0, 0, nil, api.OK)
	sameRead(t, empty, 0, 1, nil, api.OK)
	sameRead(t, empty, 1, 0, nil, api.ErrRange)
}

// TestFail: P5.6: numbers below 0, and what was said last is what counts, more or less than what was said ahead.
func TestFail(t *testing.T) {
	for _, x := range [][2]int{{-1, 0}, {0, -1}, {-1, -1}, {math.MinInt, 5}, {5, math.MinInt}} {
		d := made(t, 9)
		must(t, "wrong Fail", d.Fail(x[0], x[1]), api.ErrArg)
		must(t, "Write", d.Write(count(9)), api.OK)
		sameStand(t, "wrong Fail", d, stand{string(count(9)), true, 9, 0, 0, 9})
	}
	said := []int{0, 1, 2, 5, math.MaxInt}
	for _, first := range said {
		for _, second := range said {
			for ahead := range 3 {
				failAnew(t, first, second, ahead)
			}
		}
	}
}

// failAnew says Fail, writes some bytes if power holds so long, says it anew, and writes on.
func failAnew(t *testing.T, first, second, ahead int) {
	t.Helper()
	if first < ahead {
		return
	}
	d := made(t, 30)
	must(t, "first Fail", d.Fail(first, 1), api.OK)
	must(t, "Write", d.Write(count(ahead)), api.OK)
	must(t, "second Fail", d.Fail(second, 3), api.OK)
	must(t, "wrong Fail", d.Fail(0, -1), api.ErrArg)
	b := count(ahead + 7)
	if second >= 7 {
		must(t, "Write", d.Write(b[ahead:]), api.OK)
		return
	}
	must(t, "Write", d.Write(b[ahead:]), api.ErrPower)
	sameStand(t, "Fail anew", d, stand{string(b[:min(3, ahead+second)]), false, 30, 0, 0, ahead + second})
}

// TestWhileDown: P5.3 to P5.8: what is asked while the file is down, also where a second error applies: the first one named.
func TestWhileDown(t *testing.T) {
	d := made(t, 4)
	must(t, "Write", d.Write(count(4)), api.OK)
	must(t, "Fail", d.Fail(0, 3), api.OK)
	must(t, "Cut", d.Cut(1), api.ErrPower)
	for range 2 {
		must(t, "Write", d.Write([]byte{9}), api.ErrDown)
		must(t, "Write of nothing", d.Write(nil), api.ErrDown)
		must(t, "Write beyond the quota", d.Write(count(5)), api.ErrDown)
		must(t, "Sync", d.Sync(), api.ErrDown)
		must(t, "Cut", d.Cut(0), api.ErrDown)
		must(t, "Cut beyond the end", d.Cut(9), api.ErrDown)
		must(t, "Cut below 0", d.Cut(-1), api.ErrDown)
		must(t, "Fail", d.Fail(0, 0), api.ErrDown)
		must(t, "wrong Fail", d.Fail(-1, -1), api.ErrDown)
		sameStand(t, "refused", d, stand{string(count(3)), false, 4, 0, 0, 4})
	}
	sameRead(t, d, 1, 1, []byte{2}, api.OK)
	must(t, "Damage", d.Damage(1, 77), api.OK)
	must(t, "Damage behind the end", d.Damage(3, 77), api.ErrRange)
	sameStand(t, "Damage", d, stand{"\x01\x4d\x03", false, 4, 0, 1, 4})
	must(t, "Tail", d.Tail([]byte{5, 6}), api.OK)
	sameStand(t, "Tail", d, stand{"\x01\x4d\x03\x05\x06", false, 4, 5, 1, 4})
	must(t, "Start", d.Start(), api.OK)
	sameStand(t, "Start", d, stand{"\x01\x4d\x03\x05\x06", true, 4, 5, 1, 4})
	must(t, "Start again", d.Start(), api.ErrState)
	must(t, "Cut", d.Cut(0), api.OK)
	must(t, "Write", d.Write(count(4)), api.OK) // no Fail of those that were refused counts
	sameStand(t, "up again", d, stand{string(count(4)), true, 4, 0, 1, 9})
}

// TestDamage: P5.7: at each byte, and where there is none; nothing else changes, and Fail's deeds go on as they were.
func TestDamage(t *testing.T) {
	for at := -2; at < 7; at++ {
		d := made(t, 9)
		must(t, "Write", d.Write(count(2)), api.OK)
		must(t, "Sync", d.Sync(), api.OK)
		must(t, "Fail", d.Fail(3, 1), api.OK)
		must(t, "Write", d.Write([]byte{3, 4, 5}), api.OK)
		b, e := count(5), api.ErrRange
		if at >= 0 && at < 5 {
			b[at], e = 0, api.OK
		}
		must(t, "Damage", d.Damage(at, 0), e)
		sameStand(t, "Damage", d, stand{string(b), true, 9, 2, 0, 5})
		must(t, "Damage again", d.Damage(at, 0), e)
		must(t, "Cut", d.Cut(0), api.ErrPower)
		sameStand(t, "behind the failure", d, stand{string(b[:3]), false, 9, 2, 0, 5})
	}
	d := made(t, 9)
	for _, at := range []int{math.MinInt, -1, 0, 1, math.MaxInt} {
		must(t, "Damage of no byte", d.Damage(at, 1), api.ErrRange)
	}
	must(t, "Write", d.Write([]byte{0}), api.OK)
	for v := range 256 {
		must(t, "Damage", d.Damage(0, byte(v)), api.OK)
		sameRead(t, d, 0, 1, []byte{byte(v)}, api.OK)
	}
}

// TestDamageOfWhatWasCut: P5.7: a byte that was there once, and is gone, is none.
func TestDamageOfWhatWasCut(t *testing.T) {
	d := made(t, 9)
	must(t, "Write", d.Write(count(4)), api.OK)
	must(t, "Cut", d.Cut(2), api.OK)
	must(t, "Damage", d.Damage(2, 1), api.ErrRange)
	must(t, "Damage", d.Damage(1, 9), api.OK)
	sameStand(t, "Damage", d, stand{"\x01\x09", true, 9, 0, 0, 5})
}

// TestTail: P5.7: whatever the quota is; all bytes are synced, those ahead of it too; none are deeds.
func TestTail(t *testing.T) {
	d := made(t, 3)
	must(t, "Write", d.Write(count(2)), api.OK)
	must(t, "Fail", d.Fail(1, 0), api.OK)
	must(t, "Tail of nothing", d.Tail(nil), api.OK)
	sameStand(t, "Tail of nothing", d, stand{"\x01\x02", true, 3, 2, 0, 2})
	must(t, "Write", d.Write([]byte{3}), api.OK)
	must(t, "Tail", d.Tail([]byte{4, 5}), api.OK)
	sameStand(t, "Tail", d, stand{string(count(5)), true, 3, 5, 0, 3})
	must(t, "Write beyond the quota", d.Write([]byte{6}), api.ErrNoSpace)
	must(t, "Write of nothing beyond it", d.Write(nil), api.OK)
	must(t, "Cut", d.Cut(4), api.ErrPower)
	sameStand(t, "power fails", d, stand{string(count(5)), false, 3, 5, 0, 3})
	must(t, "Start", d.Start(), api.OK)
	must(t, "Cut", d.Cut(3), api.OK)
	must(t, "Write", d.Write([]byte{6}), api.ErrNoSpace)
	must(t, "Cut", d.Cut(2), api.OK)
	must(t, "Write", d.Write([]byte{6}), api.OK)
	sameStand(t, "beneath the quota again", d, stand{"\x01\x02\x06", true, 3, 2, 0, 6})
}

// TestLongTail: P5.7: up to 2 MaxQuota bytes and one beyond, at once and by parts, of the smallest quota and of the greatest.
func TestLongTail(t *testing.T) {
	const most = 2 * 1048576
	long := mixedBytes(5, most+1)
	for _, quota := range []int{0, 9, 1048576} {
		d := made(t, quota)
		must(t, "Tail of one byte too many", d.Tail(long), api.ErrLong)
		sameStand(t, "no Tail", d, stand{"", true, quota, 0, 0, 0})
		must(t, "Tail of just as many", d.Tail(long[:most]), api.OK)
		sameStand(t, "full", d, stand{string(long[:most]), true, quota, most, 0, 0})
		must(t, "Tail of one byte more", d.Tail([]byte{1}), api.ErrLong)
		must(t, "Tail of nothing", d.Tail(nil), api.OK)
		sameStand(t, "full", d, stand{string(long[:most]), true, quota, most, 0, 0})
		must(t, "Write", d.Write([]byte{1}), api.ErrNoSpace)
		must(t, "Cut", d.Cut(most-1), api.OK)
		must(t, "Tail of two", d.Tail([]byte{1, 2}), api.ErrLong)
		must(t, "Tail of one", d.Tail(long[most-1:most]), api.OK)
		sameStand(t, "full again", d, stand{string(long[:most]), true, quota, most, 0, 1})
		sameRead(t, d, most-1, most, long[most-1:most], api.OK)
	}
	d := made(t, 1048576)
	must(t, "Write of the whole quota", d.Write(long[:1048576]), api.OK)
	must(t, "Tail of one byte too many", d.Tail(long[1048576:]), api.ErrLong)
	sameStand(t, "no Tail", d, stand{string(long[:1048576]), true, 1048576, 0, 0, 1048576})
	must(t, "Tail of just as many", d.Tail(long[1048576:most]), api.OK)
	sameStand(t, "full", d, stand{string(long[:most]), true, 1048576, most, 0, 1048576})
}

// TestPowerInLongWrite: P5.2, P5.3, P5.9: at the greatest quota, power fails at the last byte of a writing and just behind it.
func TestPowerInLongWrite(t *testing.T) {
	const quota = 1048576
	b := mixedBytes(6, quota)
	d := made(t, quota)
	must(t, "Fail", d.Fail(quota-1, quota/2), api.OK)
	c := d.Clone()
	must(t, "Fail", c.Fail(quota, quota), api.OK)
	must(t, "Write", d.Write(b), api.ErrPower)
	sameStand(t, "at the last byte", d, stand{string(b[:quota/2]), false, quota, 0, 0, quota - 1})
	must(t, "Write", c.Write(b), api.OK)
	must(t, "Cut", c.Cut(0), api.ErrPower)
	sameStand(t, "just behind it", c, stand{string(b), false, quota, 0, 0, quota})
}

// TestClone: P5.8, R5: a clone stands as the file does, also down and where power is bound to fail, and each goes on by itself.
func TestClone(t *testing.T) {
	d := made(t, 9)
	must(t, "Write", d.Write(count(3)), api.OK)
	must(t, "Sync", d.Sync(), api.OK)
	must(t, "Write", d.Write([]byte{4, 5}), api.OK)
	sameRead(t, d, 0, 2, []byte{1, 2}, api.OK)
	must(t, "Fail", d.Fail(1, 1), api.OK)
	c := d.Clone()
	same := stand{string(count(5)), true, 9, 3, 2, 5}
	sameStand(t, "clone", c, same)
	must(t, "Write", d.Write([]byte{6}), api.OK)
	sameStand(t, "clone behind the other's Write", c, same)
	must(t, "Damage", d.Damage(0, 77), api.OK)
	must(t, "Sync", d.Sync(), api.OK)
	sameRead(t, d, 0, 9, []byte{77, 2, 3, 4, 5, 6}, api.OK)
	sameStand(t, "clone behind all that", c, same)
	must(t, "Cut of the clone", c.Cut(4), api.OK) // its one deed
	must(t, "Write of the clone", c.Write([]byte{9}), api.ErrPower)
	sameStand(t, "clone", c, stand{string(count(4)), false, 9, 3, 2, 6})
	sameStand(t, "the other", d, stand{"\x4d\x02\x03\x04\x05\x06", true, 9, 6, 8, 6})
	e := c.Clone()
	must(t, "Start of the clone", c.Start(), api.OK)
	sameStand(t, "clone of the clone", e, stand{string(count(4)), false, 9, 3, 2, 6})
	must(t, "Tail", e.Tail([]byte{5}), api.OK)
	must(t, "Start", e.Start(), api.OK)
	must(t, "Write", c.Write([]byte{7, 7}), api.OK)
	sameStand(t, "clone", c, stand{string(count(4)) + "\x07\x07", true, 9, 3, 2, 8})
	sameStand(t, "clone of the clone", e, stand{string(count(5)), true, 9, 5, 2, 6})
	must(t, "Cut", d.Cut(0), api.ErrPower)
	sameStand(t, "the first", d, stand{"\x4d\x02\x03\x04\x05\x06", false, 9, 6, 8, 6})
}

// TestClonesWriteSideBySide: R5: where bytes of a file were cut, its clones may have room behind their end; what each writes there is its own.
func TestClonesWriteSideBySide(t *testing.T) {
	for _, n := range []int{0, 1, 7, 8, 9, 100} {
		d := made(t, 200)
		must(t, "Write", d.Write(make([]byte, 100)), api.OK)
		must(t, "Cut", d.Cut(n), api.OK)
		c, e := d.Clone(), d.Clone()
		must(t, "Write", c.Write([]byte{1, 2}), api.OK)
		must(t, "Write", d.Write([]byte{3, 4}), api.OK)
		must(t, "Tail", e.Tail([]byte{5, 6}), api.OK)
		zeros := string(make([]byte, n))
		sameStand(t, "first clone", c, stand{zeros + "\x01\x02", true, 200, 0, 0, 103})
		sameStand(t, "file", d, stand{zeros + "\x03\x04", true, 200, 0, 0, 103})
		sameStand(t, "second clone", e, stand{zeros + "\x05\x06", true, 200, n + 2, 0, 101})
	}
}

// pair is a file and what it must be by the words.
type pair struct {
	d *dev.Dev
	w *word
}

// newPair is a pair of a small quota.
func newPair(t *testing.T, quota int) pair {
	t.Helper()
	return pair{made(t, quota), &word{up: true, quota: quota}}
}

// step does what two words tell to both, and holds their answers, and how they stand, against each other.
func (p pair) step(t *testing.T, what, arg uint64) {
	t.Helper()
	n := p.d.Len()
	small := int(arg % 8)
	near := int(arg>>8%uint64(n+4)) - 1
	b := mixedBytes(arg, small)
	var got, want api.Errno
	name := ""
	switch what % 16 {
	case 0, 1, 2, 3:
		name, got, want = "Write", p.d.Write(b), p.w.write(b)
	case 4:
		b = mixedBytes(arg, max(0, p.d.Quota()-n+small%3-1))
		name, got, want = "Write of the rest", p.d.Write(b), p.w.write(b)
	case 5, 6:
		name, got, want = "Sync", p.d.Sync(), p.w.sync()
	case 7, 8:
		name, got, want = "Cut", p.d.Cut(near), p.w.cut(near)
	case 9:
		k := small - 1 + small/7*1000
		told, e := p.d.Read(near, k)
		wordTold, wordE := p.w.read(near, k)
		if !bytes.Equal(told, wordTold) {
			t.Fatalf("Read(%d, %d) = %x, want %x", near, k, told, wordTold)
		}
		name, got, want = "Read", e, wordE
	case 10, 11:
		after, keep := int(arg>>8%12)-1, int(arg>>16%12)-1
		if small == 7 {
			keep = math.MaxInt
		}
		name, got, want = "Fail", p.d.Fail(after, keep), p.w.fail(after, keep)
	case 12, 13:
		name, got, want = "Start", p.d.Start(), p.w.start()
	case 14:
		name, got, want = "Damage", p.d.Damage(near, byte(arg)), p.w.damage(near, byte(arg))
	default:
		b = b[:small/3]
		name, got, want = "Tail", p.d.Tail(b), p.w.tail(b)
	}
	must(t, name, got, want)
	sameStand(t, name, p.d, p.w.stand())
}

func (p pair) clone() pair { return pair{p.d.Clone(), p.w.clone()} }

// TestScripts: all promises: mixed calls, held against the words behind each one; on the way clones are made, which go on by themselves, and each of them is looked at again when the others are done.
func TestScripts(t *testing.T) {
	for k := range uint64(400) {
		all := []pair{newPair(t, int(mixed(k)%40))}
		for i := range uint64(150) {
			w := mixed(k<<20 + i)
			p := all[w%uint64(len(all))]
			if w>>8%40 == 0 && len(all) < 6 {
				all = append(all, p.clone())
				continue
			}
			p.step(t, w>>16, mixed(w))
		}
		for _, p := range all {
			sameStand(t, "at last", p.d, p.w.stand())
		}
	}
}

// TestFollows: P5.9: what is synced, and neither cut nor damaged, stays; when power fails, what is left is the beginning of what there was; Len passes the quota by Tail alone.
func TestFollows(t *testing.T) {
	failures := 0
	for k := range uint64(300) {
		d := made(t, int(mixed(k)%30))
		safe := "" // what must stay
		tailed := 0
		for i := range uint64(200) {
			w := mixed(k<<20 + i + 1<<50)
			before := string(d.All())
			switch w % 8 {
			case 0, 1, 2, 3:
				b := mixedBytes(w, int(w>>8%6))
				if d.Write(b) == api.ErrPower {
					failures++
					leftOf(t, d, before+string(b), safe)
				}
			case 4:
				if d.Sync() == api.OK {
					safe = string(d.All())
				}
			case 5:
				d.Fail(int(w>>8%9), int(w>>16%9))
			case 6:
				d.Start()
			default:
				if w>>8%8 > 0 {
					continue
				}
				n := int(w>>16) % (d.Len() + 1)
				if w>>11%2 == 0 {
					must(t, "Tail", d.Tail(count(2)), api.OK)
					safe, tailed = string(d.All()), d.Len()
				} else if e := d.Cut(n); e == api.OK {
					safe = safe[:min(len(safe), n)]
				} else if e == api.ErrPower {
					failures++
					leftOf(t, d, before, safe)
				}
			}
			all := string(d.All())
			if all[:len(safe)] != safe {
				t.Fatalf("%x was synced, and there is %x", safe, all)
			}
			if d.Len() > max(d.Quota(), tailed) || d.Synced() > d.Len() || d.Synced() != len(safe) {
				t.Fatalf("Len %d, quota %d, Synced %d, safe %d", d.Len(), d.Quota(), d.Synced(), len(safe))
			}
		}
	}
	if failures < 500 {
		t.Errorf("power failed %d times, which says little", failures)
	}
}

// leftOf fails, if a file that went down is not the beginning of what there was, with what is safe.
func leftOf(t *testing.T, d *dev.Dev, was, safe string) {
	t.Helper()
	left := string(d.All())
	if d.Up() || len(left) > len(was) || left != was[:len(left)] || len(left) < len(safe) {
		t.Fatalf("of %x, %d of it synced, %x is left (up %t)", was, len(safe), left, d.Up())
	}
}

// TestEachByte: P5.2, P5.9: a fixed row of calls, with power that fails behind each number of deeds of it, with each number of bytes kept: what is left has what was synced ahead of it.
func TestEachByte(t *testing.T) {
	calls := []func(d *dev.Dev) api.Errno{
		func(d *dev.Dev) api.Errno { return d.Write(count(3)) },
		func(d *dev.Dev) api.Errno { return d.Sync() },
		func(d *dev.Dev) api.Errno { return d.Write([]byte{9, 8, 7, 6}) },
		func(d *dev.Dev) api.Errno { return d.Cut(5) },
		func(d *dev.Dev) api.Errno { return d.Sync() },
		func(d *dev.Dev) api.Errno { return d.Cut(4) },
		func(d *dev.Dev) api.Errno { return d.Write([]byte{5, 5}) },
	}
	// What there is behind each number of deeds, and how many of it are synced when the next deed comes.
	were := []struct {
		all    string
		synced int
	}{
		{"", 0}, {"\x01", 0}, {"\x01\x02", 0}, {"\x01\x02\x03", 3}, {"\x01\x02\x03\x09", 3}, {"\x01\x02\x03\x09\x08", 3},
		{"\x01\x02\x03\x09\x08\x07", 3}, {"\x01\x02\x03\x09\x08\x07\x06", 3}, {"\x01\x02\x03\x09\x08", 5}, {"\x01\x02\x03\x09", 4},
		{"\x01\x02\x03\x09\x05", 4}, {"\x01\x02\x03\x09\x05\x05", 4},
	}
	for after, was := range were {
		for keep := range 9 {
			d := made(t, 7)
			must(t, "Fail", d.Fail(after, keep), api.OK)
			e := api.OK
			for _, call := range calls {
				if e = call(d); e != api.OK {
					break
				}
			}
			if after == len(were)-1 {
				must(t, "all calls", e, api.OK)
				sameStand(t, "all calls", d, stand{was.all, true, 7, was.synced, 0, after})
				continue
			}
			must(t, "the call at which power fails", e, api.ErrPower)
			left := was.all[:min(len(was.all), was.synced+keep)]
			sameStand(t, "what is left", d, stand{left, false, 7, was.synced, 0, after})
		}
	}
}

// fences is b within a larger list, with room ahead of it and behind, and that list.
func fences(b []byte) (within, whole []byte) {
	whole = bytes.Join([][]byte{bytes.Repeat([]byte{0xa5}, 20), b, bytes.Repeat([]byte{0x5a}, 20+len(b))}, nil)
	return whole[20 : 20+len(b)], whole
}

// spoil writes into a list and into the room behind it.
func spoil(b []byte) {
	b = b[:cap(b)]
	for i := range b {
		b[i] ^= 0x55
	}
}

// TestArgumentStays: R4: what is handed in stays as it was, with the room about it, also where power fails, and later on; and it is not kept.
func TestArgumentStays(t *testing.T) {
	for n := range 40 {
		d := made(t, 200)
		first, wholeFirst := fences(count(n))
		second, wholeSecond := fences(mixedBytes(7, n))
		beforeFirst, beforeSecond := bytes.Clone(wholeFirst), bytes.Clone(wholeSecond)
		must(t, "Write", d.Write(first), api.OK)
		must(t, "Tail", d.Tail(second), api.OK)
		must(t, "Write", d.Write([]byte{1, 2, 3}), api.OK)
		must(t, "Cut", d.Cut(n/2), api.OK)
		must(t, "Tail", d.Tail([]byte{4, 5, 6}), api.OK)
		for at := range d.Len() {
			must(t, "Damage", d.Damage(at, 0xee), api.OK)
		}
		must(t, "Fail", d.Fail(n/2, 1), api.OK)
		if e := d.Write(first); e != api.ErrPower && n > 0 {
			t.Fatalf("Write: %d", e)
		}
		if !bytes.Equal(wholeFirst, beforeFirst) || !bytes.Equal(wholeSecond, beforeSecond) {
			t.Fatalf("what was handed in, %d bytes, was changed", n)
		}
		was := standOf(t, d)
		spoil(wholeFirst)
		spoil(wholeSecond)
		sameStand(t, "arguments spoilt", d, was)
	}
}

// TestFirstArgumentIsNotKept: R4: the first bytes that come to an empty file are taken, not kept.
func TestFirstArgumentIsNotKept(t *testing.T) {
	b := append(make([]byte, 0, 64), 1, 2, 3)
	written, tailed := made(t, 9), made(t, 9)
	must(t, "Write", written.Write(b), api.OK)
	must(t, "Tail", tailed.Tail(b), api.OK)
	must(t, "Write", written.Write([]byte{4}), api.OK)
	must(t, "Tail", tailed.Tail([]byte{5}), api.OK)
	if !bytes.Equal(b[:8], []byte{1, 2, 3, 0, 0, 0, 0, 0}) {
		t.Fatalf("what was handed in was changed: %x", b[:8])
	}
	spoil(b)
	sameStand(t, "written", written, stand{"\x01\x02\x03\x04", true, 9, 0, 0, 4})
	sameStand(t, "tailed", tailed, stand{"\x01\x02\x03\x05", true, 9, 4, 0, 0})
}

// TestAnswersAreTheCallers: R4, R5: who writes into what was told, or into the room behind it, changes neither the file nor another answer; and what the file does later on does not change an answer.
func TestAnswersAreTheCallers(t *testing.T) {
	for n := range 40 {
		d := made(t, 200)
		b := count(n)
		must(t, "Write", d.Write(b), api.OK)
		must(t, "Write", d.Write(make([]byte, 10)), api.OK)
		must(t, "Cut", d.Cut(n), api.OK) // so that there is room behind the end
		c := d.Clone()
		all, allAgain := d.All(), d.All()
		told, e := d.Read(n/2, 99)
		must(t, "Read", e, api.OK)
		toldAgain, e := d.Read(n/2, 99)
		must(t, "Read", e, api.OK)
		spoil(all)
		spoil(told)
		must(t, "Write", d.Write([]byte{9, 9}), api.OK)
		must(t, "Write of the clone", c.Write([]byte{8, 8}), api.OK)
		sameStand(t, "file", d, stand{string(b) + "\x09\x09", true, 200, 0, 2 * (n - n/2), n + 13})
		sameStand(t, "clone", c, stand{string(b) + "\x08\x08", true, 200, 0, 0, n + 13})
		spoil(all)
		spoil(told)
		sameStand(t, "file, answers spoilt again", d, stand{string(b) + "\x09\x09", true, 200, 0, 2 * (n - n/2), n + 13})
		for at := range n {
			must(t, "Damage", d.Damage(at, 0xee), api.OK)
		}
		if !bytes.Equal(allAgain, b) || !bytes.Equal(toldAgain, b[n/2:]) {
			t.Fatalf("of %d bytes: All %x, Read %x", n, allAgain, toldAgain)
		}
		sameStand(t, "clone of what was damaged", c, stand{string(b) + "\x08\x08", true, 200, 0, 0, n + 13})
	}
}

// FuzzDev: calls that bytes tell, two bytes each, held against the words.
func FuzzDev(f *testing.F) {
	f.Add(byte(10), []byte{0, 3, 5, 0, 0, 2, 10, 1, 0, 3, 12, 0})
	f.Add(byte(0), []byte{15, 7, 9, 1, 14, 2, 7, 0})
	f.Add(byte(30), []byte{0, 7, 10, 200, 4, 1, 12, 0, 9, 9, 4, 2})
	f.Fuzz(func(t *testing.T, quota byte, calls []byte) {
		p := newPair(t, int(quota))
		for i := 0; i+1 < len(calls) && i < 600; i += 2 {
			if calls[i] == 255 {
				p = p.clone()
			}
			p.step(t, uint64(calls[i]), mixed(uint64(calls[i+1]))&^255|uint64(calls[i+1]))
		}
	})
}
