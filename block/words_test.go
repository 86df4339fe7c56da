package block_test

import (
	"bytes"
	"math/big"
	"slices"
	"testing"

	"gabion/api"
	"gabion/block"
)

// mixed is the n-th of a row of well mixed words, the same ones in every run.
func mixed(n uint64) uint64 {
	z := (n + 1) * 0x9e3779b97f4a7c15
	z = (z ^ z>>30) * 0xbf58476d1ce4e5b9
	z = (z ^ z>>27) * 0x94d049bb133111eb
	return z ^ z>>31
}

// mixedBytes are n mixed bytes, of so many kinds at most.
func mixedBytes(k uint64, n, kinds int) []byte {
	b := make([]byte, n)
	for i := range b {
		b[i] = byte(mixed(k*4096+uint64(i)) % uint64(kinds))
	}
	return b
}

func join(parts ...[]byte) []byte { return bytes.Join(parts, nil) }

func row(c byte, n int) []byte { return bytes.Repeat([]byte{c}, n) }

// number is a number's bytes, by divisions.
func number(n uint64) []byte {
	if n < 128 {
		return []byte{byte(n)}
	}
	return append([]byte{byte(n%128 + 128)}, number(n/128)...)
}

// literals is a token of bytes, matched one of a match; neither asks whether there may be such a token.
func literals(b ...byte) []byte { return append(number(2*uint64(len(b))), b...) }

func matched(size, back uint64) []byte { return append(number(2*size+1), number(back)...) }

// made is packed bytes of tokens.
func made(tokens ...[]byte) []byte { return append([]byte{1}, join(tokens...)...) }

// wordNumber is P3.2 by the words: the number that bytes begin with, and what is behind it.
func wordNumber(t []byte) (*big.Int, []byte, api.Errno) {
	first := t[:min(len(t), 10)]
	ends := slices.IndexFunc(first, func(c byte) bool { return c < 128 })
	switch {
	case ends < 0 && len(first) < 10:
		return nil, nil, api.ErrShort
	case ends < 0, ends == 9 && first[9] > 1, ends > 0 && first[ends] == 0:
		return nil, nil, api.ErrForm
	}
	sum := new(big.Int)
	for i := ends; i >= 0; i-- {
		sum.Add(sum.Mul(sum, big.NewInt(128)), big.NewInt(int64(first[i]%128)))
	}
	return sum, t[ends+1:], api.OK
}

func above(n *big.Int, most int) bool { return n.Cmp(big.NewInt(int64(most))) > 0 }

// wordUnpack is P10.3 by the words, on numbers of any length.
func wordUnpack(p []byte) ([]byte, api.Errno) {
	if len(p) == 0 {
		return nil, api.ErrEmpty
	}
	if p[0] > 1 {
		return nil, api.ErrForm
	}
	if p[0] == 0 && len(p) > 2049 {
		return nil, api.ErrLong
	}
	if p[0] == 0 {
		return p[1:], api.OK
	}
	return wordTokens("", p[1:])
}

// wordTokens is what there is already and what the tokens make: the first token, and the same of the others.
func wordTokens(there string, t []byte) ([]byte, api.Errno) {
	if len(t) == 0 {
		return []byte(there), api.OK
	}
	n, rest, e := wordNumber(t)
	if e != api.OK {
		return nil, e
	}
	half, odd := new(big.Int).DivMod(n, big.NewInt(2), new(big.Int))
	if odd.Sign() == 0 {
		if half.Sign() == 0 {
			return nil, api.ErrForm
		}
		if above(new(big.Int).Add(half, big.NewInt(int64(len(there)))), 2048) {
			return nil, api.ErrLong
		}
		if above(half, len(rest)) {
			return nil, api.ErrShort
		}
		return wordTokens(there+string(rest[:half.Int64()]), rest[half.Int64():])
	}
	if !above(half, 3) || above(half, 255) {
		return nil, api.ErrForm
	}
	back, rest, e := wordNumber(rest)
	if e != api.OK {
		return nil, e
	}
	if back.Sign() == 0 || above(back, 1024) || above(back, len(there)) {
		return nil, api.ErrForm
	}
	if len(there)+int(half.Int64()) > 2048 {
		return nil, api.ErrLong
	}
	// What is taken comes again and again: the bytes from so far back on, as often as need be.
	piece := there[len(there)-int(back.Int64()):]
	for len(piece) < int(half.Int64()) {
		piece += piece
	}
	return wordTokens(there+piece[:half.Int64()], rest)
}

// most is P10.2 by the words: how many bytes Pack may have by its least bound, and P10.1: one more than b has.
func most(b []byte) int {
	least := len(b) + 1
	for p := 1; p <= 1024 && p <= len(b); p++ {
		if bytes.Equal(b[p:], b[:len(b)-p]) {
			least = min(least, p+p/8+(len(b)-p)/32+16)
		}
	}
	return least
}

// brief is a list's length and beginning, as whole lists would hide what is wrong with them.
func brief(b []byte) (int, []byte) { return len(b), b[:min(len(b), 24)] }

// samePack asks for all that is promised of Pack(b), and tells the packed bytes.
func samePack(t *testing.T, b []byte) []byte {
	t.Helper()
	n, begin := brief(b)
	p, e := block.Pack(b)
	if e != api.OK {
		t.Fatalf("Pack of %d bytes (%x ..): error %d", n, begin, e)
	}
	if least := most(b); len(p) > least {
		t.Errorf("Pack of %d bytes (%x ..) has %d, at most %d may be", n, begin, len(p), least)
	}
	if back, e := wordUnpack(p); e != api.OK || !bytes.Equal(back, b) {
		t.Errorf("Pack of %d bytes (%x ..) is not they by the words: error %d, %x", n, begin, e, p)
	}
	if back, e := block.Unpack(p); e != api.OK || !bytes.Equal(back, b) {
		t.Errorf("Unpack of Pack of %d bytes (%x ..) is not they: error %d, %x", n, begin, e, p)
	}
	if again, e := block.Pack(append(make([]byte, 0, 2*n), b...)); e != api.OK || !bytes.Equal(again, p) {
		t.Errorf("Pack of %d bytes (%x ..) is %x, and then %x", n, begin, p, again)
	}
	return p
}

// sameUnpack holds Unpack against the words, and tells the error.
func sameUnpack(t *testing.T, p []byte) api.Errno {
	t.Helper()
	want, wantE := wordUnpack(p)
	got, e := block.Unpack(p)
	if e != wantE || !bytes.Equal(got, want) {
		n, begin := brief(p)
		t.Errorf("Unpack of %d bytes (%x ..) = %x, %d, want %x, %d", n, begin, got, e, want, wantE)
	}
	if len(got) > api.MaxBlock {
		t.Errorf("Unpack tells %d bytes", len(got))
	}
	return wantE
}
