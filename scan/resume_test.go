package scan_test

import (
	"math"
	"slices"
	"testing"

	"gabion/api"
	"gabion/scan"
)

// someIndex is an index of n entries of unlike numbers.
func someIndex(n int) api.Index {
	x := api.Index{At: 90000, Frames: int64(4 * n), Rows: 5000}
	for i := range int64(n) {
		x.Entries = append(x.Entries, entry(1000*i+17, 100*i+3, 700*i+5))
	}
	return x
}

// asResume holds Resume against P14.4's words, where there is a walk, and tells it; nil, where there must be none.
func asResume(t *testing.T, x api.Index, k int, s api.Numbered, is bool) *pair {
	t.Helper()
	w := scan.Resume(x, k, s)
	if (w != nil) != is {
		t.Fatalf("Resume of %d entries, %d, the number %d: a walk %v, want %v", len(x.Entries), k, s.Number, w != nil, is)
	}
	if !is {
		return nil
	}
	p := &pair{w, resumed(x, k, s)}
	p.stands(t)
	return p
}

// TestResumePlaces: P14.4: k of -1, 0, each Entry, the last one, one above, and far away; of an index of no entries none.
func TestResumePlaces(t *testing.T) {
	s := api.Numbered{Number: 3, Schema: pairs}
	for _, n := range []int{0, 1, 2, 5, 63, 64, 65, 100} {
		x := someIndex(n)
		for _, k := range []int{-1, -2, n, n + 1, math.MinInt, math.MaxInt} {
			asResume(t, x, k, s, false)
		}
		for k := range n {
			p := asResume(t, x, k, s, true)
			w := p.w
			at, is := w.Place(3)
			if w.Frames() != int64(4*k) || w.Rows() != int64(100*k+3) || w.Number() != 3 || w.Since() != 0 || w.Closed() || at != 700*k+5 || !is || !slices.Equal(w.Entries(), x.Entries[:k]) {
				t.Fatalf("Resume of %d entries, %d: %s", n, k, brief(standing(w, 3, exact)))
			}
			for _, other := range []int64{-1, 0, 1, 2, 4, 5, maxNumber} {
				if got, is := w.Schema(other); is || len(got.Columns) > 0 {
					t.Fatalf("it knows a schema of the number %d", other)
				}
				if at, is := w.Place(other); is || at != 0 {
					t.Fatalf("it knows a place of the number %d", other)
				}
			}
		}
	}
}

var edges = []int64{-1, 0, 1, maxSeq - 1, maxSeq, maxSeq + 1, math.MinInt64, math.MaxInt64}

// TestResumeEntries: P14.4: numbers about their limits in the first Entries, in the one of k and in those behind it, which are not looked at.
func TestResumeEntries(t *testing.T) {
	s := api.Numbered{Schema: ints}
	for _, n := range []int{1, 2, 4, 7} {
		for k := range n {
			for i := range n {
				for field := range 3 {
					for _, v := range edges {
						x := someIndex(n)
						one := &x.Entries[i]
						*[]*int64{&one.At, &one.Row, &one.Schema}[field] = v
						asResume(t, x, k, s, i > k || v >= 0 && v < 1<<40)
					}
				}
			}
		}
	}
}

// TestResumeIndex: P14.4: what the index says of itself is not looked at.
func TestResumeIndex(t *testing.T) {
	for _, v := range edges {
		for field := range 3 {
			x := someIndex(3)
			*[]*int64{&x.At, &x.Frames, &x.Rows}[field] = v
			asResume(t, x, 1, api.Numbered{Schema: ints}, true)
		}
	}
}

// TestResumeNumber: P14.4: numbers of s that are small, and that are not.
func TestResumeNumber(t *testing.T) {
	x := someIndex(2)
	for _, v := range []int64{0, 1, 2, 127, 128, maxNumber - 2, maxNumber - 1} {
		p := asResume(t, x, 1, api.Numbered{Number: v, Schema: ints}, true)
		if p.w.Number() != v {
			t.Fatalf("Number %d, want %d", p.w.Number(), v)
		}
	}
	for _, v := range []int64{-1, -2, maxNumber, maxNumber + 1, maxSeq - 1, maxSeq, 1 << 32, math.MinInt64, math.MaxInt64} {
		asResume(t, x, 1, api.Numbered{Number: v, Schema: ints}, false)
	}
}

// TestResumeSchema: P14.4: schemas that schema.Check refuses, and others; floats are fixed.
func TestResumeSchema(t *testing.T) {
	x := someIndex(2)
	for _, s := range wrongSchemas() {
		for k := range 2 {
			asResume(t, x, k, api.Numbered{Schema: s}, false)
		}
	}
	other := of(with("f", ofFloat, nan(0xfff8000000000001)), with("l", listOf(ofFloat), list(nan(0x7ff0000000000001), float(minusZero))))
	for _, s := range []api.Schema{ints, texts, pairs, floats, nested, wide(16), longSchema(1024), other} {
		p := asResume(t, x, 1, api.Numbered{Number: 9, Schema: s}, true)
		if told, is := p.w.Schema(9); !is || exact(told) != fixed(s) {
			t.Fatalf("Schema: %s, %v", exact(told), is)
		}
		p.must(t, schemaFrame(9, s), 0, api.OK)
	}
}

// TestResumeNext: P14.2, P14.4: what such a walk takes next, and what not.
func TestResumeNext(t *testing.T) {
	for _, k := range []int{0, 1, 2, 5, 62, 63, 64, 65} {
		x := someIndex(70)
		for _, number := range []int64{0, 1, 5, maxNumber - 2} {
			p := asResume(t, x, k, api.Numbered{Number: number, Schema: pairs}, true)
			seq, first := int64(4*k), int64(100*k+3)
			for _, f := range []api.Frame{
				schemaFrame(number, ints), schemaFrame(number-1, pairs), schemaFrame(number+2, pairs), dataFrame(number, seq+1, first, 1, ""), dataFrame(number, seq-1, first, 1, ""), dataFrame(number, seq, first+1, 1, ""), dataFrame(number, seq, first-1, 1, ""), dataFrame(number+1, seq, first, 1, ""), dataFrame(number-1, seq, first, 1, ""),
				indexFrame(50, seq, first, x.Entries[:k+1]...), indexFrame(50, seq+1, first, x.Entries[:k]...), indexFrame(50, seq, first+1, x.Entries[:k]...), indexFrame(50, seq, first), {Kind: api.IndexFrame, Index: x},
			} {
				if f.Kind == api.IndexFrame && k == 0 && len(f.Index.Entries) == 0 && f.Index.Frames == seq && f.Index.Rows == first {
					continue // of no entries that is its own
				}
				p.must(t, f, 50, api.ErrOrder)
			}
			p.clone().must(t, schemaFrame(number, pairs), 50, api.OK)
			p.clone().must(t, schemaFrame(number+1, ints), 50, api.OK)
			if k <= 64 {
				p.clone().must(t, indexFrame(50, seq, first, x.Entries[:k]...), 50, api.OK)
			}
			want := x.Entries[:k:k]
			if k < 64 {
				want = append(want, entry(50, first, 700*int64(k)+5))
			}
			p.must(t, dataFrame(number, seq, first, 7, "x"), 50, api.OK)
			if !slices.Equal(p.w.Entries(), want) || p.w.Since() != 1 || p.w.Frames() != seq+1 || p.w.Rows() != first+7 {
				t.Fatalf("behind its data frame: %s", brief(standing(p.w, number, exact)))
			}
			for i := range 9 {
				p.must(t, p.words.ownData(1, ""), 60+i, api.OK)
			}
			p.must(t, schemaFrame(number+1, ints), 90, api.OK)
			if s, is := p.w.Schema(number); !is || exact(s) != fixed(pairs) {
				t.Fatalf("the schema that it began with: %s, %v", exact(s), is)
			}
		}
	}
}

// TestResumeFile: P14.4: from each Entry of a file on, the rest of the file's frames is taken, and tells the same as all of them.
func TestResumeFile(t *testing.T) {
	l := longFile(300)
	whole, _, e := scan.Whole(device(l.b))
	if e != api.ErrEnd {
		t.Fatalf("Whole: %d", e)
	}
	entries := whole.Entries()
	x := api.Index{Entries: entries}
	for k, one := range entries {
		schemaFrame, _, _ := scan.At(device(l.b), int(one.Schema))
		p := asResume(t, x, k, api.Numbered{Number: schemaFrame.Number, Schema: schemaFrame.Schema}, true)
		for at := int(one.At); at < len(l.b); {
			f, behind, e := scan.At(device(l.b[at:]), 0)
			if e != api.OK || p.next(t, f, at) != api.OK {
				t.Fatalf("from the entry %d on: the frame at %d does not follow: %d", k, at, e)
			}
			at += behind
		}
		p.stands(t)
		if p.w.Frames() != whole.Frames() || p.w.Rows() != whole.Rows() || p.w.Number() != whole.Number() || p.w.Closed() != whole.Closed() || !slices.Equal(p.w.Entries(), entries) {
			t.Fatalf("from the entry %d on: %s", k, brief(standing(p.w, whole.Number(), exact)))
		}
	}
}
