package split_test

import (
	"testing"

	"gabion/split"
)

// TestFeedExamples: the chapter's examples of Feed and Held.
func TestFeedExamples(t *testing.T) {
	s := split.New()
	sameRuns(t, "Feed(0 5)", s.Feed([]byte{0, 5}), nil)
	if s.Held() != 1 {
		t.Fatalf("behind 0 5: Held %d", s.Held())
	}
	sameRuns(t, "Feed(6)", s.Feed([]byte{6}), nil)
	sameRuns(t, "Feed(0)", s.Feed([]byte{0}), runs(run(0, 5, 6)))
	if s.Held() != 0 {
		t.Fatalf("behind 0 5 6 0: Held %d", s.Held())
	}
	s = split.New()
	s.Feed([]byte{0})
	for n := 1; n <= 5000; n++ {
		want := n
		if n >= 2201 {
			want = 0
		}
		if got := s.Feed([]byte{7}); len(got) != 0 || s.Held() != want {
			t.Fatalf("behind %d bytes of a run: %s, Held %d, want %d", n, brief(got), s.Held(), want)
		}
	}
	sameRuns(t, "its fence", s.Feed([]byte{0}), nil)
}

// TestNew: P13.1, P13.2: at the beginning nothing came, and pieces of no bytes change nothing, there and later.
func TestNew(t *testing.T) {
	f := fresh()
	f.stands(t)
	for _, b := range [][]byte{nil, {}, {5}, nil, {}, {0}, nil, {}, {6, 7}, nil, {}, {0}, nil, {}, {0}, nil} {
		f.goOn(t, b)
	}
	for range maxFrame + 1 {
		f.goOn(t, []byte{8})
		if f.s.Held() == maxFrame {
			f.goOn(t, nil)
		}
	}
	f.goOn(t, nil)
	f.goOn(t, []byte{0, 9, 0})
}

// TestHeld: P13.2: ahead of the first fence, behind a fence, within a run, at MaxFrame bytes, at one more and from there on, behind the next fence, told by hand.
func TestHeld(t *testing.T) {
	s := split.New()
	at := 0
	for k, x := range []struct {
		c       byte
		n, held int
	}{
		{5, 1, 0}, {5, maxFrame - 1, 0}, {5, 1, 0}, {5, 5000, 0}, // ahead of the first fence
		{0, 1, 0}, {0, 1, 0}, {5, 1, 1}, {5, 1, 2}, {0, 1, 0}, {5, 3, 3}, {0, 2, 0}, {0, 9000, 0},
		{5, maxFrame - 1, maxFrame - 1}, {5, 1, maxFrame}, {5, 1, 0}, {5, 1, 0}, {5, maxFrame - 2, 0}, {5, 1, 0}, {5, 1, 0}, {5, maxFrame, 0}, {5, 70000, 0},
		{0, 1, 0}, {5, 1, 1}, {5, maxFrame - 1, maxFrame}, {0, 1, 0}, {5, maxFrame + 1, 0}, {0, 1, 0}, {5, maxFrame, maxFrame}, {5, 1, 0}, {0, 1, 0}, {5, 2, 2},
	} {
		s.Feed(row(x.c, x.n))
		at += x.n
		if s.Held() != x.held || s.At() != at {
			t.Fatalf("behind piece %d: Held %d, At %d, want %d, %d", k, s.Held(), s.At(), x.held, at)
		}
	}
}

// TestPlaces: P13.1: At of a run is counted from the stream's beginning, in later pieces, too, and a run is told with the piece that holds its closing fence, told by hand.
func TestPlaces(t *testing.T) {
	s := split.New()
	sameRuns(t, "first", s.Feed([]byte{9, 0, 5, 0}), runs(run(1, 5)))
	sameRuns(t, "second", s.Feed([]byte{6, 0}), runs(run(3, 6)))
	sameRuns(t, "third", s.Feed([]byte{0, 7, 7}), nil)
	sameRuns(t, "fourth", s.Feed(nil), nil)
	sameRuns(t, "fifth", s.Feed([]byte{8}), nil)
	sameRuns(t, "sixth", s.Feed([]byte{9, 0, 1, 0, 2}), runs(run(6, 7, 7, 8, 9), run(11, 1)))
	sameRuns(t, "seventh", s.Feed([]byte{0}), runs(run(13, 2)))
	sameRuns(t, "eighth", s.Feed(row(3, 2201)), nil)
	sameRuns(t, "ninth", s.Feed([]byte{0, 4}), nil)
	sameRuns(t, "tenth", s.Feed([]byte{0, 0}), runs(run(2217, 4)))
	if s.At() != 2221 || s.Held() != 0 {
		t.Fatalf("At %d, Held %d", s.At(), s.Held())
	}
}

// TestAllPieces: P13.1, P13.2, P13.4: all streams of few bytes, in all pieces.
func TestAllPieces(t *testing.T) {
	for _, b := range words([]byte{0, 1, 2}, 6) {
		w := streamOf(b)
		for set := range 1 << max(0, len(b)-1) {
			var cuts []int
			for at := 1; at < len(b); at++ {
				if set>>(at-1)&1 == 1 {
					cuts = append(cuts, at)
				}
			}
			pieces(t, w, cuts...)
		}
	}
}

// TestEmptyPieces: P13.4: pieces of no bytes at each place, one and several, also at the beginning and at the end.
func TestEmptyPieces(t *testing.T) {
	for _, b := range words([]byte{0, 1}, 8) {
		w := streamOf(b)
		for at := range len(b) + 1 {
			pieces(t, w, at, at)
			pieces(t, w, at, at, at, at)
			pieces(t, w, 0, at, at, len(b))
		}
	}
}

// singly are the cuts of pieces of so many bytes each.
func singly(all []byte, size int) []int {
	var cuts []int
	for at := size; at < len(all); at += size {
		cuts = append(cuts, at)
	}
	return cuts
}

// TestCutEverywhere: P13.1, P13.2, P13.4: streams about the limit, cut at each place: at fences, just ahead of them and just behind.
func TestCutEverywhere(t *testing.T) {
	for _, w := range longStreams() {
		asRuns(t, w.all)
		for at := range len(w.all) + 1 {
			pieces(t, w, at)
		}
	}
}

// TestManyPieces: P13.1, P13.2, P13.4: long and mixed streams in pieces of one byte each, of few bytes, of many, and of mixed lengths.
func TestManyPieces(t *testing.T) {
	for k, w := range append(longStreams(), mixedStreams(320)...) {
		asRuns(t, w.all)
		for _, size := range []int{1, 2, 3, 7, 100, 2199, 2200, 2201, 2202} {
			pieces(t, w, singly(w.all, size)...)
		}
		for i := range uint64(4) {
			var cuts []int
			for at, n := 0, uint64(0); at <= len(w.all); n++ {
				cuts = append(cuts, at)
				at += int(mixed(uint64(k)<<16+i<<12+n) % 200)
			}
			pieces(t, w, cuts...)
		}
	}
}

// TestSideBySide: R5: Splitters that are fed in turn know nothing of each other.
func TestSideBySide(t *testing.T) {
	var all []*fed
	for range 5 {
		all = append(all, fresh())
	}
	for k := range uint64(600) {
		f := all[mixed(k)%5]
		b := mixedBytes(k, int(mixed(k)>>8%30), 4)
		if k%50 < 5 {
			b = row(byte(k%3), maxFrame-int(k%4))
		}
		f.goOn(t, b)
		for _, other := range all {
			other.stands(t)
		}
	}
}
