package repair_test

import (
	"bytes"
	"testing"

	"gabion/api"
	"gabion/dev"
	"gabion/repair"
	"gabion/scan"
)

// asDo holds Do against the words: what it answers, the bytes that are left, how many of these are synced, how many deeds it does; behind OK that the file is whole, and that there is nothing more to cut.
func asDo(t *testing.T, d *dev.Dev) (int, api.Errno) {
	t.Helper()
	b, before, synced, written := d.All(), state(d), d.Synced(), d.Written()
	kept, want, wantE := wordLook(b)
	if !d.Up() {
		wantE = api.ErrDown
	}
	gone, e := repair.Do(d)
	if wantE != api.OK {
		if gone != 0 || e != wantE || state(d) != before {
			t.Fatalf("Do of %d bytes: %d, %d, want %d; the file is the same: %v", len(b), gone, e, wantE, state(d) == before)
		}
		return gone, e
	}
	deeds := min(1, len(b)-kept)
	if gone != len(b)-kept || e != api.OK || !bytes.Equal(d.All(), b[:kept]) || !d.Up() {
		t.Fatalf("Do of %d bytes: %d, %d, and %d are left, want %d", len(b), gone, e, d.Len(), kept)
	}
	if d.Synced() != min(synced, kept) || d.Written() != written+deeds {
		t.Fatalf("Do of %d bytes: %d of %d are synced, %d deeds", len(b), d.Synced(), kept, d.Written()-written)
	}
	mustBeDone(t, d, want)
	return gone, e
}

// mustBeDone: P15.3: a file behind a Do is whole, of these frames; another Do cuts nothing.
func mustBeDone(t *testing.T, d *dev.Dev, frames words) {
	t.Helper()
	before := state(d)
	w, at, e := scan.Whole(d)
	if at != d.Len() || e != api.ErrEnd {
		t.Fatalf("behind Do the file is not whole: %d of %d, %d", at, d.Len(), e)
	}
	mustStand(t, w, frames)
	if kept, _, e := asLook(t, d); kept != d.Len() || e != api.OK {
		t.Fatalf("behind Do Look keeps %d of %d, %d", kept, d.Len(), e)
	}
	if gone, e := repair.Do(d); gone != 0 || e != api.OK || state(d) != before {
		t.Fatalf("a second Do: %d, %d, the file is the same: %v", gone, e, state(d) == before)
	}
}

// mustDo is asDo, with the answer told by hand.
func mustDo(t *testing.T, b []byte, gone int, want api.Errno) {
	t.Helper()
	if n, e := asDo(t, device(b)); n != gone || e != want {
		t.Fatalf("Do of %d bytes: %d, %d, want %d, %d by hand", len(b), n, e, gone, want)
	}
}

// TestDoWhole: P15.2, P15.3: of whole files schema frames at the end go, else nothing.
func TestDoWhole(t *testing.T) {
	for _, f := range wholeFiles() {
		mustDo(t, f.b, len(f.b)-f.behind(f.kept), api.OK)
		mustDo(t, f.b[:f.behind(f.kept)], 0, api.OK)
	}
}

// TestDoCut: P15.2, P15.3: the first bytes of whole files, up to each place: what is left is whole, and holds each frame that was whole there, but schema frames at the end.
func TestDoCut(t *testing.T) {
	for _, f := range wholeFiles() {
		frames := 0
		for n := range len(f.b) + 1 {
			for frames < len(f.all) && f.behind(frames+1) <= n {
				frames++
			}
			if n%3 == 0 || n-f.behind(frames) < 4 {
				mustDo(t, f.b[:n], n-f.behind(f.keptOf(frames)), api.OK)
			}
		}
	}
}

// TestDoErrors: P15.2: of each error for which scan.Whole ends; of Look's own error the file stays as it was.
func TestDoErrors(t *testing.T) {
	one := encoded(dataFrame(7, 7, 7, 7, "xyz"))
	for _, f := range []*wholeFile{wholeFiles()[0], wholeFiles()[2], wholeFiles()[11], wholeFiles()[15]} {
		goes := len(f.b) - f.behind(f.kept)
		for _, x := range endings() {
			mustDo(t, join(f.b, x.b), goes+len(x.b), api.OK)
			mustDo(t, join(f.b, x.b, row(7, 50)), goes+len(x.b)+50, api.OK)
			mustDo(t, join(f.b, x.b, one), 0, api.ErrDamaged)
			mustDo(t, join(f.b, x.b, row(7, 50), one, row(7, 50)), 0, api.ErrDamaged)
		}
		mustDo(t, join(f.b, one), 0, api.ErrDamaged)
	}
}

// TestDoDown: P15.2: of a file that is down ErrDown, whatever stands there, and it stays as it was; behind Start as if it had never been.
func TestDoDown(t *testing.T) {
	l := longFile(9)
	for _, b := range [][]byte{nil, {0}, {5}, l.b, l.b[:50], l.b[1:], row(0, 50), encoded(schemaFrame(0, ints))} {
		d := device(b)
		takeDown(d)
		for range 2 {
			if _, e := asDo(t, d); e != api.ErrDown {
				t.Fatalf("of %d bytes: %d", len(b), e)
			}
		}
		d.Start()
		if _, e := asDo(t, d); e == api.ErrDown {
			t.Fatalf("of %d bytes, up again: ErrDown", len(b))
		}
	}
}

// TestDoPower: P15.2: power that fails in the cut: ErrPower, 0, and the file is down, all that was synced in it; Do again, and it is as it would have been.
func TestDoPower(t *testing.T) {
	l := longFile(9)
	for _, tail := range [][]byte{{0}, {5}, row(0, 50), encoded(schemaFrame(1, ints)), join(encoded(schemaFrame(1, ints)), encoded(schemaFrame(2, texts)), row(5, 30))} {
		for _, keep := range []int{0, 1, 1 << 30} {
			d := device(join(l.b, tail))
			written := d.Written()
			d.Fail(0, keep)
			if gone, e := repair.Do(d); gone != 0 || e != api.ErrPower {
				t.Fatalf("%d, %d", gone, e)
			}
			if d.Up() || !bytes.Equal(d.All(), join(l.b, tail)) || d.Written() != written {
				t.Fatalf("up: %v, %d bytes, %d deeds", d.Up(), d.Len(), d.Written())
			}
			if _, e := asDo(t, d); e != api.ErrDown {
				t.Fatalf("behind that: %d", e)
			}
			if _, _, e := asLook(t, d); e != api.ErrDown {
				t.Fatalf("behind that: Look %d", e)
			}
			d.Start()
			if gone, e := asDo(t, d); gone != len(tail) || e != api.OK {
				t.Fatalf("again: %d, %d", gone, e)
			}
		}
	}
}

// TestDoPowerUnsynced: P15.2, P15.3: of a file that was written, synced up to some place, and cut off within a frame, where power fails in the cut, whatever is kept behind what was synced: Do behind that cuts what is left back to whole frames.
func TestDoPowerUnsynced(t *testing.T) {
	l := longFile(5)
	for _, synced := range []int{0, 1, 20, l.behind(2), l.behind(3) + 5, len(l.b)} {
		for keep := 0; keep <= len(l.b)-synced+12; keep += 3 {
			d, _ := dev.New(api.MaxQuota)
			d.Write(l.b[:synced])
			d.Sync()
			d.Write(l.b[synced:])
			d.Write([]byte("\x00torn"))
			d.Fail(0, keep)
			if gone, e := repair.Do(d); gone != 0 || e != api.ErrPower {
				t.Fatalf("%d, %d", gone, e)
			}
			left := min(synced+keep, len(l.b)+5)
			if d.Up() || d.Len() != left || d.Synced() != synced {
				t.Fatalf("up: %v, %d bytes of %d, %d of %d synced", d.Up(), d.Len(), left, d.Synced(), synced)
			}
			d.Start()
			if _, e := asDo(t, d); e != api.OK {
				t.Fatalf("again: %d", e)
			}
		}
	}
}

// TestDoIsOneDeed: P15.2: it does one deed, none where there is nothing to cut or an error: so there power that is bound to fail does not.
func TestDoIsOneDeed(t *testing.T) {
	for _, f := range wholeFiles() {
		d := device(f.b[:f.behind(f.kept)])
		d.Fail(0, 0)
		if gone, e := asDo(t, d); gone != 0 || e != api.OK || !d.Up() {
			t.Fatalf("nothing to cut: %d, %d", gone, e)
		}
		if d.Write([]byte{1}) != api.ErrPower {
			t.Fatalf("power was bound to fail at the next deed")
		}
		d = device(join(f.b, encoded(dataFrame(7, 7, 7, 7, ""))))
		d.Fail(0, 0)
		if gone, e := asDo(t, d); gone != 0 || e != api.ErrDamaged || !d.Up() {
			t.Fatalf("damaged: %d, %d", gone, e)
		}
		d = device(join(f.b, row(5, 3)))
		d.Fail(1, 0)
		if _, e := asDo(t, d); e != api.OK {
			t.Fatalf("a cut: %d", e)
		}
		if d.Write([]byte{1}) != api.ErrPower {
			t.Fatalf("power was bound to fail behind the cut")
		}
	}
}

// TestDoSynced: P15.2: nothing is synced by it: of what is left as much is as was.
func TestDoSynced(t *testing.T) {
	l := longFile(5)
	for synced := range len(l.b) + 4 {
		b := join(l.b, row(5, 3))
		d, _ := dev.New(len(b))
		d.Write(b[:synced])
		d.Sync()
		d.Write(b[synced:])
		if gone, e := asDo(t, d); gone != 3 || e != api.OK || d.Synced() != min(synced, len(l.b)) {
			t.Fatalf("%d, %d, %d of %d synced", gone, e, d.Synced(), synced)
		}
	}
}

// TestDoQuota: P15.2: whatever the quota is: a file that is longer than that is looked at and cut like any other.
func TestDoQuota(t *testing.T) {
	l := longFile(9)
	for _, quota := range []int{0, 1, 50, len(l.b), len(l.b) + 1} {
		for _, tail := range [][]byte{nil, {5}, row(0, 900), encoded(schemaFrame(1, ints))} {
			d, _ := dev.New(quota)
			d.Tail(join(l.b, tail))
			if gone, e := asDo(t, d); gone != len(tail) || e != api.OK || d.Quota() != quota {
				t.Fatalf("a quota of %d: %d, %d", quota, gone, e)
			}
		}
	}
}

// TestDoGoesOn: P15.2, P15.3: a file is written frame by frame, power fails behind each byte, and within the cut, too: behind the next Do it has the first frames, whole ones, and goes on from there to the same bytes.
func TestDoGoesOn(t *testing.T) {
	l := longFile(5)
	for after := range len(l.b) {
		d, _ := dev.New(api.MaxQuota)
		d.Fail(after, after)
		if d.Write(l.b) != api.ErrPower || d.Len() != after {
			t.Fatalf("%d bytes, want %d", d.Len(), after)
		}
		d.Start()
		d.Fail(0, after)
		if gone, e := repair.Do(d); e != api.OK && e != api.ErrPower || gone != 0 {
			t.Fatalf("%d bytes: %d, %d", after, gone, e)
		}
		d.Start()
		if _, e := asDo(t, d); e != api.OK {
			t.Fatalf("%d bytes: %d", after, e)
		}
		d.Fail(len(l.b), 0)
		if d.Write(l.b[d.Len():]) != api.OK || !bytes.Equal(d.All(), l.b) {
			t.Fatalf("%d bytes: it does not go on", after)
		}
		mustBeDone(t, d, l.words)
	}
}

// TestExamples: the chapter's examples.
func TestExamples(t *testing.T) {
	l := &laid{}
	l.schema(0, ints)
	for _, block := range []string{"\x00\x02", "\x00\x04", "\x00\x06"} {
		l.data(1, block)
	}
	one, two, three := l.behind(2), l.behind(3), len(l.b)
	for n := two + 1; n < three; n++ { // its last data frame cut within: the frames ahead of it are kept
		mustLook(t, l.b[:n], l, 3, api.OK)
		mustDo(t, l.b[:n], n-two, api.OK)
	}
	again := encoded(schemaFrame(0, ints)) // a file that ends in a schema frame: that goes
	mustLook(t, join(l.b, again), l, 4, api.OK)
	mustDo(t, join(l.b, again), len(again), api.OK)
	for at := one; at < three; at++ { // a byte overwritten: of the second one ErrDamaged; of the third one: it goes
		b := bytes.Clone(l.b)
		b[at] ^= 64
		if at < two {
			mustLook(t, b, l, 0, api.ErrDamaged)
			mustDo(t, b, 0, api.ErrDamaged)
		} else {
			mustLook(t, b, l, 3, api.OK)
			mustDo(t, b, three-two, api.OK)
		}
	}
	noise := mixedBytes(1, 700, 9) // noise without frames: all of it goes
	mustLook(t, noise, l, 0, api.OK)
	mustDo(t, noise, 700, api.OK)
}
