package block

import (
	"gabion/api"
	"gabion/leb"
)

// match is a piece that stood already: how many bytes it has, and how far back they stand.
type match struct{ size, back int }

// packTokens is bytes as tokens: at each place the longest match is taken. So bytes that come again p back are matches as long as may be, from their place p on, whatever came ahead of it.
func packTokens(b []byte) []byte {
	stood := lookUp(b)
	p := []byte{tokens}
	from := 0 // up to here all bytes are in tokens
	for at := 0; at < len(b); {
		m := longest(b, at, stood)
		if m.size == 0 {
			at++
			continue
		}
		p = putMatch(putLiterals(p, b[from:at]), m)
		at += m.size
		from = at
	}
	return putLiterals(p, b[from:])
}

// putLiterals puts a token of bytes behind others: none of no bytes, as there is no such token.
func putLiterals(p, b []byte) []byte {
	if len(b) == 0 {
		return p
	}
	p = append(p, leb.Put(2*uint64(len(b)))...)
	return append(p, b...)
}

func putMatch(p []byte, m match) []byte {
	p = append(p, leb.Put(2*uint64(m.size)+1)...)
	return append(p, leb.Put(uint64(m.back))...)
}

// longest is the longest match for what stands at a place, and of several the nearest one, whose bytes are the fewest; of no size, if there is none.
func longest(b []byte, at int, stood func(at int) int) match {
	most := min(len(b)-at, api.MaxMatch)
	m := match{}
	for from := stood(at); from >= 0 && at-from <= api.Window && m.size < most; from = stood(from) {
		if n := alike(b[from:], b[at:at+most]); n > m.size {
			m = match{size: n, back: at - from}
		}
	}
	return m
}

// alike is how many bytes two lists begin with that are the same in both. The first one is the longer one.
func alike(long, short []byte) int {
	for i, c := range short {
		if long[i] != c {
			return i
		}
	}
	return len(short)
}

// lookUp makes a closure that tells for a place where its four bytes stood last ahead of it: below 0, if they did not, or if there are no four.
func lookUp(b []byte) func(at int) int {
	last := make(map[[api.MinMatch]byte]int, len(b)) // 1 more than a place, as 0 says that there is none
	ahead := make([]int, len(b))                     // likewise
	for at := range len(b) - (api.MinMatch - 1) {
		four := [api.MinMatch]byte{b[at], b[at+1], b[at+2], b[at+3]}
		ahead[at] = last[four]
		last[four] = at + 1
	}
	return func(at int) int { return ahead[at] - 1 }
}
