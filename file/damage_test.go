package file_test

import (
	"bytes"
	"math"
	"testing"

	"gabion/api"
)

// TestDamageTailOpen: P20.2: ErrState of a file that is open, whatever is asked; nothing changes, and it stays open.
func TestDamageTailOpen(t *testing.T) {
	p := begun(t, plenty, ints)
	for _, one := range shortScript() {
		p.do(one)
		for _, at := range []int{0, 5, -1, len(p.f.Bytes()), math.MinInt, math.MaxInt} {
			must(t, "Damage", p.damage(at, 9), api.ErrState)
		}
		for _, b := range [][]byte{nil, {}, {0}, row(5, 100), make([]byte, 2*maxQuota+1)} {
			must(t, "Tail", p.tail(b), api.ErrState)
		}
		p.mustRead()
	}
}

// TestDamage: P20.2: of a file that is not open the device's: ErrRange, where there is no such byte; else that byte is another one: up and down.
func TestDamage(t *testing.T) {
	whole := closed(t, written(t, shortScript()...)).Bytes()
	for _, b := range [][]byte{nil, {7}, whole} {
		for _, p := range []*twins{oddOf(t, b), downOf(t, b)} {
			for _, at := range []int{-1, len(b), len(b) + 1, math.MinInt, math.MaxInt} {
				must(t, "Damage", p.damage(at, 9), api.ErrRange)
			}
			if !bytes.Equal(p.f.Bytes(), b) {
				t.Fatalf("a refused Damage changed the file")
			}
			want := bytes.Clone(b)
			for at := range b {
				want[at] = byte(3 * at)
				must(t, "Damage", p.damage(at, byte(3*at)), api.OK)
			}
			if !bytes.Equal(p.f.Bytes(), want) || p.f.Opened() {
				t.Fatalf("other bytes were changed, or it is open")
			}
		}
	}
}

// TestTail: P20.2: of a file that is not open the device's: ErrLong beyond two MaxQuota; else the bytes stand behind the end, whatever the quota is, and last: up and down.
func TestTail(t *testing.T) {
	for _, quota := range []int{0, 10, plenty} {
		p := twinsOf(t, quota)
		must(t, "Tail", p.tail(nil), api.OK)
		must(t, "Tail", p.tail(row(5, 20)), api.OK)
		must(t, "Tail", p.tail([]byte{0, 6}), api.OK)
		if !bytes.Equal(p.f.Bytes(), join(row(5, 20), []byte{0, 6})) || p.f.Opened() {
			t.Fatalf("bytes: %v", p.f.Bytes())
		}
	}
	for _, p := range []*twins{oddOf(t, row(5, 9)), downOf(t, row(5, 9))} {
		must(t, "Tail", p.tail(make([]byte, 2*maxQuota-8)), api.ErrLong)
		must(t, "Tail", p.tail(make([]byte, 3*maxQuota)), api.ErrLong)
		if !bytes.Equal(p.f.Bytes(), row(5, 9)) {
			t.Fatalf("a refused Tail changed the file")
		}
		must(t, "Tail", p.tail(make([]byte, 2*maxQuota-9)), api.OK)
		must(t, "Tail", p.tail([]byte{1}), api.ErrLong)
		must(t, "Tail", p.tail(nil), api.OK)
		if len(p.f.Bytes()) != 2*maxQuota {
			t.Fatalf("%d bytes", len(p.f.Bytes()))
		}
	}
}

// TestTailLasts: P20.2: behind a Tail all bytes are synced: power that fails takes none of them; nor is it a deed, or a Damage.
func TestTailLasts(t *testing.T) {
	p := begun(t, plenty, ints)
	p.do(shortScript()...)
	must(t, "Fail", p.fail(0, math.MaxInt), api.OK)
	p.mustClose(false, api.ErrPower)
	must(t, "Start", p.start(), api.OK)
	must(t, "Fail", p.fail(0, 0), api.OK)
	must(t, "Damage", p.damage(0, 0), api.OK)
	must(t, "Tail", p.tail(row(5, 10)), api.OK)
	whole := p.f.Bytes()
	p.mustOpen(ints, api.ErrPower)
	if !bytes.Equal(p.f.Bytes(), whole) {
		t.Fatalf("%d bytes, want %d", len(p.f.Bytes()), len(whole))
	}
}

// TestBehindDamage: P20.2, P20.3: a byte of the file overwritten, and back again: it is read as before, opened, and goes on.
func TestBehindDamage(t *testing.T) {
	p := begun(t, plenty, ints)
	p.do(shortScript()...)
	p.mustClose(true, api.OK)
	whole := p.f.Bytes()
	for at := range whole {
		must(t, "Damage", p.damage(at, whole[at]+1), api.OK)
		if _, e := p.rows(); e == api.OK {
			t.Fatalf("the byte %d overwritten: Rows: OK", at)
		}
		p.salvage()
		must(t, "Damage", p.damage(at, whole[at]), api.OK)
	}
	p.mustRead()
	p.mustOpen(two, api.OK)
	p.do(shortScript()...)
	p.mustRead()
}
