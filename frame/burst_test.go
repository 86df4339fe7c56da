package frame_test

import (
	"slices"
	"testing"

	"gabion/api"
	"gabion/frame"
	"gabion/stuff"
)

// burst changes a body within 32 bits side by side, from a bit on, as the bits of pattern say.
func burst(body []byte, from int, pattern uint32) []byte {
	changed := slices.Clone(body)
	for i := range 32 {
		if bit := from + i; pattern>>i&1 == 1 && bit < 8*len(body) {
			changed[bit/8] ^= 1 << (bit % 8)
		}
	}
	return changed
}

// told asks for ErrSum of a changed body, or ErrLong, if that is longer than MaxFrame.
func told(t *testing.T, changed []byte) {
	t.Helper()
	b := stuff.Stuff(changed)
	want := api.ErrSum
	if len(b) > 2200 {
		want = api.ErrLong
	}
	f, e := frame.Decode(b)
	if e != want || exact(f) != exact(api.Frame{}) {
		t.Fatalf("Decode of the changed body %.80x: %s, %d, want %d", changed, brief(exact(f)), e, want)
	}
}

// patterns are bits to change: bursts of each width up to 32, full, with its ends alone, and mixed; the first bit is always one of them.
func patterns() []uint32 {
	var l []uint32
	for width := range 32 {
		ends := uint32(1) | 1<<width
		full := uint32(1)<<width - 1 | ends
		l = append(l, ends, full)
		for k := range uint64(3) {
			l = append(l, uint32(mixed(k<<8+uint64(width)))&full|ends)
		}
	}
	return append(l, 0xedb88321, 0xdb710641, 0x04c11db7, 0x82608edb, 0x77073096|1)
}

// TestBursts: P12.5: bursts from each bit on, at the beginning, across bytes, at the end and over the check.
func TestBursts(t *testing.T) {
	all := patterns()
	for _, f := range unlikeFrames() {
		body := withSum(wordFields(f))
		last := 8 * len(body)
		for from := range last {
			few := all
			if from > 72 && from < last-72 && last > 4000 && from%3 > 0 {
				continue
			}
			if from > 72 && from < last-72 && last > 400 {
				few = all[from%31 : from%31+1] // within long ones a pattern a bit
			}
			for _, pattern := range few {
				told(t, burst(body, from, pattern))
			}
		}
	}
}

// TestCheckChanged: P12.5: the check alone put in place of another one: each single check but the right one is wrong.
func TestCheckChanged(t *testing.T) {
	for _, f := range unlikeFrames() {
		body := withSum(wordFields(f))
		for k := range uint64(200) {
			pattern := uint32(mixed(k))
			if pattern != 0 {
				told(t, burst(body, 8*len(body)-32, pattern))
			}
		}
		told(t, append(slices.Clone(body[:len(body)-4]), ^body[len(body)-4], ^body[len(body)-3], ^body[len(body)-2], ^body[len(body)-1]))
	}
}

// TestMixedBursts: P12.5: of mixed frames, at mixed places.
func TestMixedBursts(t *testing.T) {
	for k, f := range rightFrames() {
		body := withSum(wordFields(f))
		for i := range uint64(20) {
			m := mixed(uint64(k)<<16 + i)
			told(t, burst(body, int(m>>32%uint64(8*len(body))), uint32(m)|1))
		}
	}
}

func FuzzBurst(f *testing.F) {
	f.Add([]byte{0}, uint16(0), uint32(1))
	f.Add(mixedBytes(3, 300), uint16(40), uint32(0xedb88321))
	f.Fuzz(func(t *testing.T, b []byte, from uint16, pattern uint32) {
		r := source{b}
		one := r.frame()
		if _, e := wordEncode(one); e != api.OK {
			return
		}
		body := withSum(wordFields(one))
		told(t, burst(body, int(from)%(8*len(body)), pattern|1))
	})
}
