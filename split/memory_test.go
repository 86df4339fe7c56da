package split_test

import (
	"bytes"
	"runtime"
	"testing"

	"gabion/api"
	"gabion/split"
)

// within is b within a larger list, with room ahead of it and behind, in which fences and others stand, and that list.
func within(b []byte) (inner, outer []byte) {
	room := bytes.Repeat([]byte{0, 77, 0, 78}, 30)
	outer = join(room, b, room)
	return outer[len(room) : len(room)+len(b)], outer
}

// TestArgumentStays: R4, R5: what is fed stays, with what stands about it; nothing of that counts.
func TestArgumentStays(t *testing.T) {
	for k, w := range append(longStreams(), mixedStreams(200)...) {
		inner, outer := within(w.all)
		kept := bytes.Clone(outer)
		sameRuns(t, "Runs of "+shown(w.all), split.Runs(inner), w.told(0, len(w.all)))
		cut := int(mixed(uint64(k)) % uint64(len(w.all)+1))
		pieces(t, stream{inner, w.runs}, cut)
		pieces(t, stream{inner, w.runs}, singly(w.all, 50)...)
		if !bytes.Equal(outer, kept) {
			t.Fatalf("what was fed was changed: %s", shown(w.all))
		}
	}
}

// TestFedIsNotKept: R4, R5: who writes over bytes that were fed, and over the room behind them, changes nothing of what is told later, by the Splitter or a clone of it.
func TestFedIsNotKept(t *testing.T) {
	for k, w := range append(longStreams(), mixedStreams(200)...) {
		for _, size := range []int{1, 3, 100, 2201} {
			one, from := split.New(), 0
			two := one.Clone()
			buffer := make([]byte, size+20) // one buffer for all pieces, as one who reads a file has it
			for _, to := range append(singly(w.all, size), len(w.all)) {
				piece := append(buffer[:0], w.all[from:to]...)
				sameRuns(t, "from a buffer", one.Feed(piece), w.told(from, to))
				for i := range buffer {
					buffer[i] = byte(k+i) % 3
				}
				piece = append(buffer[:0], w.all[from:to]...)
				sameRuns(t, "a clone from a buffer", two.Feed(piece), w.told(from, to))
				clear(buffer)
				if to%7 == 0 {
					two = one.Clone()
				}
				from = to
			}
			if one.Held() != w.held(len(w.all)) || two.Held() != w.held(len(w.all)) {
				t.Fatalf("Held %d, %d, want %d", one.Held(), two.Held(), w.held(len(w.all)))
			}
		}
	}
}

// spoil writes over runs, their bytes, and the room behind them.
func spoil(l []api.Run) {
	for _, one := range l {
		for i := range one.Bytes[:cap(one.Bytes)] {
			one.Bytes[:cap(one.Bytes)][i] = byte(i % 3)
		}
	}
	for i := range l[:cap(l)] {
		l[:cap(l)][i] = run(-9, 9)
	}
}

// TestAnswersAreTheCallers: R4, R5: who writes over what was told, and over the room behind it, changes nothing of what is told later, nor of what was told to others.
func TestAnswersAreTheCallers(t *testing.T) {
	for _, w := range append(longStreams(), mixedStreams(200)...) {
		for _, size := range []int{1, 4, 300, 2202, 9000} {
			one := split.New()
			two, from := one.Clone(), 0
			var kept, want [][]api.Run
			for _, to := range append(singly(w.all, size), len(w.all)) {
				spoil(one.Feed(w.all[from:to]))
				got := two.Feed(w.all[from:to])
				kept, want = append(kept, got), append(want, w.told(from, to))
				if one.Held() != w.held(to) || one.At() != to {
					t.Fatalf("Held %d, At %d, want %d, %d", one.Held(), one.At(), w.held(to), to)
				}
				from = to
			}
			for i := range kept {
				if !same(kept[i], want[i]) {
					t.Fatalf("of %s: what was told became %s", shown(w.all), brief(kept[i]))
				}
			}
			spoil(split.Runs(w.all))
			sameRuns(t, "Runs once more", split.Runs(w.all), w.told(0, len(w.all)))
		}
	}
}

// memory is each place of the lists that it was shown, with the room behind them.
type memory map[any]bool

// claim tells whether nothing of a list was shown ahead of it.
func claim[T any](m memory, l []T) bool {
	free := true
	all := l[:cap(l)]
	for i := range all {
		free = free && !m[&all[i]]
		m[&all[i]] = true
	}
	return free
}

// TestNewMemory: R4: no two lists of an answer share any memory, none with an argument or another answer, nor the room behind them; of a Splitter and a clone likewise.
func TestNewMemory(t *testing.T) {
	for _, w := range append(longStreams()[:12], mixedStreams(60)...) {
		given := memory{}
		claim(given, w.all)
		one := split.New()
		two, from := one.Clone(), 0
		answers := [][]api.Run{split.Runs(w.all)}
		for k, to := range append(singly(w.all, 90), len(w.all)) {
			answers = append(answers, one.Feed(w.all[from:to]), two.Feed(w.all[from:to]))
			if k%3 == 0 {
				two = one.Clone()
			}
			from = to
		}
		for _, l := range answers {
			free := claim(given, l)
			for _, one := range l {
				free = claim(given, one.Bytes) && free
			}
			if !free {
				t.Fatalf("of %s: %s shares memory", shown(w.all), brief(l))
			}
		}
	}
}

// TestLongIsNotHeld: P13.2: of what stands ahead of the first fence, and of a run that is too long, nothing is held, however long it goes on.
func TestLongIsNotHeld(t *testing.T) {
	piece := row(7, 4096)
	for _, ahead := range [][]byte{nil, {0}, {5, 0, 6, 0}} {
		s := split.New()
		s.Feed(ahead)
		var before, behind runtime.MemStats
		runtime.ReadMemStats(&before)
		for range 4000 {
			if got := s.Feed(piece); len(got) != 0 {
				t.Fatalf("told %s", brief(got))
			}
		}
		runtime.ReadMemStats(&behind)
		if took := behind.TotalAlloc - before.TotalAlloc; took > 1<<20 || s.Held() != 0 || s.At() != len(ahead)+4000*4096 {
			t.Fatalf("took %d bytes, Held %d, At %d", took, s.Held(), s.At())
		}
		sameRuns(t, "behind it", s.Feed([]byte{0, 5, 0}), runs(run(len(ahead)+4000*4096, 5)))
	}
}
