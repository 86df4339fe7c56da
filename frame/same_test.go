package frame_test

import (
	"math"
	"slices"
	"testing"

	"gabion/api"
	"gabion/frame"
)

// sameSame asks whether two are the same, either way round.
func sameSame(t *testing.T, a, b api.Frame, want bool) {
	t.Helper()
	if words := fixed(bare(a)) == fixed(bare(b)); words != want {
		t.Fatalf("by the words Same(%s; %s) is %v", brief(exact(a)), brief(exact(b)), words)
	}
	if frame.Same(a, b) != want || frame.Same(b, a) != want {
		t.Fatalf("Same(%s; %s): %v, %v, want %v", brief(exact(a)), brief(exact(b)), frame.Same(a, b), frame.Same(b, a), want)
	}
}

// change is a way in which a frame may differ, and the kinds of which that field counts.
type change struct {
	counts []int
	does   func(f *api.Frame)
}

// changes are each field by itself.
func changes() []change {
	return []change{
		{[]int{1, 2}, func(f *api.Frame) { f.Number++ }}, {[]int{1, 2}, func(f *api.Frame) { f.Number = -1 }}, {[]int{1, 2}, func(f *api.Frame) { f.Number += 1 << 32 }},
		{[]int{1}, func(f *api.Frame) { f.Schema = of(plain("b", ofInt)) }}, {[]int{1}, func(f *api.Frame) { f.Schema = of(plain("a", ofText)) }}, {[]int{1}, func(f *api.Frame) { f.Schema = of(with("a", ofInt, number(0))) }}, {[]int{1}, func(f *api.Frame) { f.Schema = of(plain("a", ofInt), plain("b", ofInt)) }}, {[]int{1}, func(f *api.Frame) { f.Schema = api.Schema{} }}, {[]int{1}, func(f *api.Frame) { f.Schema.Columns[0].Has = true }},
		{[]int{2}, func(f *api.Frame) { f.Seq++ }}, {[]int{2}, func(f *api.Frame) { f.Seq = -f.Seq }}, {[]int{2}, func(f *api.Frame) { f.Seq += 1 << 32 }}, {[]int{2}, func(f *api.Frame) { f.First-- }}, {[]int{2}, func(f *api.Frame) { f.First += maxSeq }}, {[]int{2}, func(f *api.Frame) { f.First += 1 << 32 }}, {[]int{2}, func(f *api.Frame) { f.Rows++ }}, {[]int{2}, func(f *api.Frame) { f.Rows = 0 }}, {[]int{2}, func(f *api.Frame) { f.Rows += 1 << 32 }},
		{[]int{2}, func(f *api.Frame) { f.Block[0]++ }}, {[]int{2}, func(f *api.Frame) { f.Block[len(f.Block)-1] ^= 128 }}, {[]int{2}, func(f *api.Frame) { f.Block = f.Block[:1] }}, {[]int{2}, func(f *api.Frame) { f.Block = nil }}, {[]int{2}, func(f *api.Frame) { f.Block = append(f.Block, 0) }},
		{[]int{3}, func(f *api.Frame) { f.Index.At++ }}, {[]int{3}, func(f *api.Frame) { f.Index.Frames-- }}, {[]int{3}, func(f *api.Frame) { f.Index.Rows = math.MinInt64 }}, {[]int{3}, func(f *api.Frame) { f.Index.At, f.Index.Frames = f.Index.Frames, f.Index.At }}, {[]int{3}, func(f *api.Frame) { f.Index.Frames, f.Index.Rows = f.Index.Rows, f.Index.Frames }},
		{[]int{3}, func(f *api.Frame) { f.Index.Entries = nil }}, {[]int{3}, func(f *api.Frame) { f.Index.Entries = f.Index.Entries[:2] }}, {[]int{3}, func(f *api.Frame) { f.Index.Entries = append(f.Index.Entries, api.Entry{}) }}, {[]int{3}, func(f *api.Frame) { slices.Reverse(f.Index.Entries) }},
		{[]int{3}, func(f *api.Frame) { f.Index.Entries[0].At++ }}, {[]int{3}, func(f *api.Frame) { f.Index.Entries[1].Row-- }}, {[]int{3}, func(f *api.Frame) { f.Index.Entries[2].Schema += 1 << 32 }}, {[]int{3}, func(f *api.Frame) { f.Index.Entries[2].At = -1 }}, {[]int{3}, func(f *api.Frame) { f.Index.Entries[0].Row = maxSeq }},
	}
}

// whole is a frame of a kind with all its fields set.
func whole(k int) api.Frame {
	return api.Frame{Kind: k, Number: 3, Schema: of(plain("a", ofInt)), Seq: 4, First: 5, Rows: 6, Block: []byte("block"), Index: api.Index{At: 7, Frames: 8, Rows: 9, Entries: []api.Entry{entry(1, 2, 3), entry(4, 5, 6), entry(7, 8, 9)}}}
}

// TestSame: P12.3: frames that differ in one field, which counts or does not.
func TestSame(t *testing.T) {
	for _, k := range []int{1, 2, 3, 0, 4, -1, 257, math.MaxInt, math.MinInt} {
		sameSame(t, whole(k), whole(k), true)
		sameSame(t, api.Frame{Kind: k}, api.Frame{Kind: k}, true)
		sameSame(t, whole(k), bare(whole(k)), true)
		for i, one := range changes() {
			f := whole(k)
			one.does(&f)
			if exact(f) == exact(whole(k)) {
				t.Fatalf("change %d is none", i)
			}
			sameSame(t, f, whole(k), !slices.Contains(one.counts, k))
			sameSame(t, f, f, true)
		}
		for _, other := range []int{1, 2, 3, 0, 4, -1, 257, math.MaxInt, math.MinInt} {
			sameSame(t, whole(k), whole(other), k == other)
			sameSame(t, api.Frame{Kind: k}, api.Frame{Kind: other}, k == other)
		}
	}
}

// TestSameFloats: P12.3: a default of a NaN is the same as one of another NaN; 0 and -0 are not the same.
func TestSameFloats(t *testing.T) {
	frameOf := func(v api.Value) api.Frame {
		return schemaFrame(1, of(plain("a", ofInt), with("l", listOf(optOf(ofFloat)), list(opt(), opt(v))), with("f", ofFloat, v)))
	}
	for _, a := range nanBits {
		for _, b := range nanBits {
			sameSame(t, frameOf(nan(a)), frameOf(nan(b)), true)
		}
		sameSame(t, frameOf(nan(a)), frameOf(float(0)), false)
		sameSame(t, frameOf(nan(a)), frameOf(float(math.Inf(1))), false)
	}
	sameSame(t, frameOf(float(0)), frameOf(float(minusZero)), false)
	sameSame(t, frameOf(float(minusZero)), frameOf(float(minusZero)), true)
	sameSame(t, frameOf(float(1)), frameOf(float(2)), false)
}

// TestSameNothing: P12.3, R3: nil lists and empty ones are the same.
func TestSameNothing(t *testing.T) {
	sameSame(t, api.Frame{Kind: 2, Block: []byte{}}, api.Frame{Kind: 2}, true)
	sameSame(t, indexFrame(1, 2, 3), api.Frame{Kind: 3, Index: api.Index{At: 1, Frames: 2, Rows: 3, Entries: []api.Entry{}}}, true)
	sameSame(t, schemaFrame(1, api.Schema{Columns: []api.Column{}}), schemaFrame(1, api.Schema{}), true)
	sameSame(t, schemaFrame(1, of(with("a", listOf(ofInt), api.Value{Kind: api.List, Items: []api.Value{}}))), schemaFrame(1, of(with("a", listOf(ofInt), list()))), true)
	sameSame(t, dataFrame(0, 0, 0, 1, "\x00"), dataFrame(0, 0, 0, 1, ""), false)
	sameSame(t, indexFrame(1, 2, 3, api.Entry{}), indexFrame(1, 2, 3), false)
}

// TestSameMixed: P12.3: mixed frames, right ones and wrong ones, each against itself and those next to it, and against a frame that differs in little.
func TestSameMixed(t *testing.T) {
	l := slices.Concat(manyFrames(), unlikeFrames())
	for k, f := range l {
		sameSame(t, f, f, true)
		for i := range min(8, k) {
			g := l[k-i]
			g.Kind = f.Kind
			sameSame(t, f, g, fixed(bare(f)) == fixed(bare(g)))
		}
		g := f
		g.Index.Entries, g.Block = slices.Clone(f.Index.Entries), slices.Clone(f.Block)
		switch {
		case f.Kind == 3 && len(g.Index.Entries) > 0:
			set(&g.Index.Entries[k%len(g.Index.Entries)], k%3, 77)
		case f.Kind == 2 && len(g.Block) > 0:
			g.Block[k%len(g.Block)] ^= byte(1 + k%255)
		}
		sameSame(t, f, g, fixed(bare(f)) == fixed(bare(g)))
	}
	for i, f := range unlikeFrames() {
		for j, g := range unlikeFrames() {
			sameSame(t, f, g, i == j)
		}
	}
}
