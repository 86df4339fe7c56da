package block_test

import (
	"bytes"
	"testing"

	"gabion/api"
	"gabion/block"
)

// fences is b within a larger list, with room ahead of it and behind, and that list.
func fences(b []byte) (within, whole []byte) {
	whole = join(row(0xa5, 20), b, row(0x5a, 2100+len(b)))
	return whole[20 : 20+len(b)], whole
}

// spoil writes into a list and into the room behind it.
func spoil(b []byte) {
	b = b[:cap(b)]
	for i := range b {
		b[i] ^= 0x55
	}
}

// some are bytes that are packed as raw and as tokens, of no length, short ones and the longest.
func some() [][]byte {
	return [][]byte{nil, {}, {7}, {7, 7, 7, 7, 7, 7, 7, 7}, row(7, 64), row(7, 2048), unlike(5), unlike(64), unlike(2048), mixedBytes(1, 500, 2), again(unlike(300), 2000), shreds(1, 900, 5, 2, 140)}
}

// TestArgumentStays: R4, R5: what is handed in stays, with the room about it; nothing of that room counts.
func TestArgumentStays(t *testing.T) {
	stays := func(b []byte, call func(within []byte)) {
		t.Helper()
		within, whole := fences(b)
		before := append([]byte(nil), whole...)
		call(within)
		call(within)
		if !bytes.Equal(whole, before) {
			t.Fatalf("what was handed in was changed: %x", b)
		}
	}
	for _, b := range some() {
		p, _ := block.Pack(b)
		stays(b, func(within []byte) {
			if got, e := block.Pack(within); e != api.OK || !bytes.Equal(got, p) {
				t.Fatalf("Pack(%x) hangs on the room behind it: %x, want %x", b, got, p)
			}
		})
		stays(p, func(within []byte) { sameUnpack(t, within) })
	}
	for k := range uint64(500) {
		stays(mixedTokens(k), func(within []byte) { sameUnpack(t, within) })
		stays(mixedBytes(k, 2049, 2), func(within []byte) {
			if p, e := block.Pack(within); e != api.ErrLong || p != nil {
				t.Fatalf("Pack of 2049 bytes: error %d", e)
			}
		})
	}
}

// callers asks that two answers of one call share no memory with each other, nor with what is handed in, nor with what is answered later.
func callers(t *testing.T, b []byte, call func([]byte) ([]byte, api.Errno)) {
	t.Helper()
	want, wantE := call(b)
	want = append([]byte(nil), want...)
	given := append(make([]byte, 0, 2*len(b)+8), b...)
	kept := append([]byte(nil), given[:cap(given)]...)
	first, e := call(given)
	second, e2 := call(given)
	if e != wantE || e2 != wantE || !bytes.Equal(first, want) || !bytes.Equal(second, want) {
		t.Fatalf("of %x: %x, %d, and then %x, %d, and %x, %d", b, want, wantE, first, e, second, e2)
	}
	spoil(first)
	if !bytes.Equal(given[:cap(given)], kept) {
		t.Fatalf("of %x: the answer shares memory with what was handed in", b)
	}
	if !bytes.Equal(second, want) {
		t.Fatalf("of %x: two answers share memory", b)
	}
	spoil(given)
	if !bytes.Equal(second, want) {
		t.Fatalf("of %x: the answer shares memory with what was handed in", b)
	}
	if third, e := call(b); e != wantE || !bytes.Equal(third, want) {
		t.Fatalf("of %x: %x, %d behind a change of what was told", b, third, e)
	}
}

// TestAnswersAreTheCallers: R4, R5: who writes into what was handed in, or into an answer and the room behind it, changes no other.
func TestAnswersAreTheCallers(t *testing.T) {
	for _, b := range some() {
		callers(t, b, block.Pack)
		p, _ := block.Pack(b)
		callers(t, p, block.Unpack)
		callers(t, join([]byte{0}, b), block.Unpack)
		if len(b) > 0 {
			callers(t, made(literals(b...)), block.Unpack)
		}
	}
	for k := range uint64(300) {
		callers(t, mixedTokens(k), block.Unpack)
	}
	callers(t, []byte{1}, block.Unpack)
}
