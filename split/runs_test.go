package split_test

import (
	"bytes"
	"testing"

	"gabion/api"
	"gabion/split"
)

func run(at int, b ...byte) api.Run { return api.Run{At: at, Bytes: b} }

func runs(l ...api.Run) []api.Run { return l }

// TestRunsExamples: the chapter's examples of Runs.
func TestRunsExamples(t *testing.T) {
	for _, x := range []struct {
		b    []byte
		want []api.Run
	}{
		{[]byte{0, 5, 6, 0}, runs(run(0, 5, 6))},
		{[]byte{5, 0, 6, 0, 0, 7, 0, 8}, runs(run(1, 6), run(4, 7))},
		{nil, nil},
		{[]byte{}, nil},
		{[]byte{0}, nil},
		{[]byte{5, 6}, nil},
		{join(row(0, 1), row(7, 2201), row(0, 1)), nil},
	} {
		sameRuns(t, "Runs of "+shown(x.b), split.Runs(x.b), x.want)
	}
}

// TestRunsByHand: P13.1, P13.3: bytes ahead of the first fence and behind the last one, one fence of two runs, fences side by side, runs of one byte, told by hand.
func TestRunsByHand(t *testing.T) {
	for _, x := range []struct {
		b    []byte
		want []api.Run
	}{
		{[]byte{5}, nil},
		{[]byte{255}, nil},
		{[]byte{0, 0}, nil},
		{[]byte{0, 0, 0}, nil},
		{row(0, 5000), nil},
		{[]byte{0, 5}, nil},
		{[]byte{5, 0}, nil},
		{[]byte{5, 0, 6}, nil},
		{[]byte{5, 6, 0, 0, 7, 8}, nil},
		{[]byte{0, 5, 0}, runs(run(0, 5))},
		{[]byte{0, 255, 0}, runs(run(0, 255))},
		{[]byte{9, 0, 5, 0}, runs(run(1, 5))},
		{[]byte{9, 9, 9, 0, 5, 0}, runs(run(3, 5))},
		{[]byte{0, 5, 0, 9}, runs(run(0, 5))},
		{[]byte{0, 5, 0, 6, 0}, runs(run(0, 5), run(2, 6))},
		{[]byte{0, 5, 0, 6, 7, 0, 8, 0}, runs(run(0, 5), run(2, 6, 7), run(5, 8))},
		{[]byte{0, 5, 0, 0, 6, 0}, runs(run(0, 5), run(3, 6))},
		{[]byte{0, 5, 0, 0, 0, 6, 0}, runs(run(0, 5), run(4, 6))},
		{[]byte{0, 0, 5, 0, 0}, runs(run(1, 5))},
		{[]byte{0, 0, 0, 5, 0, 0, 0}, runs(run(2, 5))},
		{[]byte{0, 5, 5, 0, 5, 5, 0}, runs(run(0, 5, 5), run(3, 5, 5))},
		{[]byte{0, 1, 2, 255, 0}, runs(run(0, 1, 2, 255))},
	} {
		sameRuns(t, "Runs of "+shown(x.b), split.Runs(x.b), x.want)
		asRuns(t, x.b)
	}
}

// TestRunsLimit: P13.1: runs of MaxFrame bytes, of one fewer and one more, alone, ahead of others and behind them, and behind bytes that are no run, told by hand.
func TestRunsLimit(t *testing.T) {
	z := row(0, 1)
	for n := 1; n <= 2*maxFrame+10; n++ {
		if n > 300 && n%maxFrame > 5 && n%maxFrame < maxFrame-5 && n%97 > 0 {
			continue
		}
		long := mixedBytes(uint64(n), n, 0)
		var told []api.Run
		if n <= 2200 {
			told = runs(api.Run{Bytes: long})
		}
		sameRuns(t, "one run", split.Runs(join(z, long, z)), told)
		sameRuns(t, "runs behind it", split.Runs(join(z, long, z, row(5, 1), z, z, row(6, 2), z)), append(told, run(n+1, 5), run(n+4, 6, 6)))
		for i := range told {
			told[i].At = 4
		}
		sameRuns(t, "runs about it", split.Runs(join(row(1, 2), z, row(5, 1), z, long, z, row(6, 1), z)), append(append(runs(run(2, 5)), told...), run(n+5, 6)))
		sameRuns(t, "ahead of the first fence", split.Runs(join(long, z, row(5, 2), z)), runs(run(n, 5, 5)))
		sameRuns(t, "behind the last fence", split.Runs(join(z, row(5, 2), z, long)), runs(run(0, 5, 5)))
		sameRuns(t, "no fence", split.Runs(long), nil)
	}
}

// TestRunsOfFew: P13.3: all streams of few bytes.
func TestRunsOfFew(t *testing.T) {
	for _, b := range words([]byte{0, 1, 255}, 9) {
		asRuns(t, b)
	}
	for _, b := range words([]byte{0, 7}, 14) {
		asRuns(t, b)
	}
	for c := range 256 {
		x := byte(c)
		for _, b := range [][]byte{{x}, {0, x, 0}, {x, 0, x}, {0, x, x, 0, x, 0}, {x, 9, 0, 8, x, 7, 0}} {
			asRuns(t, b)
		}
	}
}

// allStreams are streams about the limit and mixed ones.
func allStreams() []stream { return append(longStreams(), mixedStreams(1600)...) }

// TestRunsOfMany: P13.1, P13.3, on long and mixed streams; the same once more: R5.
func TestRunsOfMany(t *testing.T) {
	told, left := 0, 0
	for _, w := range allStreams() {
		for range 2 {
			asRuns(t, w.all)
		}
		told += len(w.told(0, len(w.all)))
		left += len(w.runs) - len(w.told(0, len(w.all)))
	}
	if told < 15000 || left < 100 {
		t.Fatalf("only %d runs to tell, and %d that are too long", told, left)
	}
}

// TestRunsStand: P13.4: a run's bytes, a fence ahead and one behind, stand in the stream at its place; none has a zero byte, none is empty or too long, and they come in order.
func TestRunsStand(t *testing.T) {
	for _, w := range allStreams() {
		last := -1
		for _, one := range split.Runs(w.all) {
			whole := join(row(0, 1), one.Bytes, row(0, 1))
			if one.At <= last || one.At+len(whole) > len(w.all) || !bytes.Equal(w.all[one.At:one.At+len(whole)], whole) {
				t.Fatalf("of %s: %s does not stand there", shown(w.all), brief(runs(one)))
			}
			if len(one.Bytes) == 0 || len(one.Bytes) > maxFrame || bytes.IndexByte(one.Bytes, 0) >= 0 {
				t.Fatalf("of %s: %s is no run", shown(w.all), brief(runs(one)))
			}
			last = one.At
		}
	}
}

// TestRunsAreFeeds: P13.3: what New().Feed tells, whatever other Splitters and calls there were.
func TestRunsAreFeeds(t *testing.T) {
	other := split.New()
	for _, w := range allStreams() {
		other.Feed(w.all)
		sameRuns(t, "Runs of "+shown(w.all), split.Runs(w.all), split.New().Feed(w.all))
	}
}

// FuzzRuns: P13.1 to P13.4 on bytes that the fuzzer makes up, twice, with a row of one byte between them that may be too long; cut at two places, and cloned at the first of these.
func FuzzRuns(f *testing.F) {
	f.Add([]byte{5, 0, 6, 0, 0, 7, 0, 8}, uint16(1), uint16(3), uint16(5))
	f.Add([]byte{0, 5, 6, 0}, uint16(3000), uint16(1), uint16(0))
	f.Add([]byte{}, uint16(0), uint16(0), uint16(0))
	f.Fuzz(func(t *testing.T, b []byte, often, first, second uint16) {
		if len(b) > 0 {
			b = join(b, row(b[0], int(often)%5000), b)
		}
		w := streamOf(b)
		asRuns(t, b)
		i, j := int(first)%(len(b)+1), int(second)%(len(b)+1)
		pieces(t, w, min(i, j), max(i, j))
		one := fresh()
		one.goOn(t, b[:i])
		two := one.clone()
		one.goOn(t, b[i:])
		two.stands(t)
		two.goOn(t, b[:j])
		one.stands(t)
	})
}
