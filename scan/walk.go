package scan

import (
	"maps"
	"slices"

	"gabion/api"
	"gabion/frame"
	"gabion/schema"
)

const noNumber = -1

// Walk is what the frames so far came to.
type Walk struct {
	schemas map[int64]known // by their numbers
	number  int64           // the greatest of these, or noNumber
	since   int
	frames  int64
	rows    int64
	entries []api.Entry
	closed  bool
}

// known is what is known of a schema's number. The schema is never written into, nor handed out: so clones may share it.
type known struct {
	schema api.Schema
	place  int64 // of its last frame
}

// New begins ahead of all frames.
func New() *Walk {
	return &Walk{schemas: make(map[int64]known), number: noNumber}
}

// Resume begins ahead of the data frame of an index's entry.
func Resume(x api.Index, k int, s api.Numbered) *Walk {
	if k < 0 || k >= len(x.Entries) || !small(s.Number) || schema.Check(s.Schema) != api.OK {
		return nil
	}
	for _, entry := range x.Entries[:k+1] {
		if !large(entry.At, entry.Row, entry.Schema) {
			return nil
		}
	}
	w := New()
	w.learn(s.Number, s.Schema, x.Entries[k].Schema)
	w.frames = api.IndexEvery * int64(k)
	w.rows = x.Entries[k].Row
	w.entries = append(w.entries, x.Entries[:k]...)
	return w
}

// Next takes the next frame, which stands at a place.
func (w *Walk) Next(f api.Frame, at int) api.Errno {
	place := int64(at)
	if !large(place) {
		return api.ErrOrder
	}
	if _, e := frame.Encode(f); e != api.OK {
		return api.ErrOrder
	}
	if !w.follows(f, place) {
		return api.ErrOrder
	}
	w.take(f, place)
	return api.OK
}

// follows tells whether a frame that may be follows those that were taken.
func (w *Walk) follows(f api.Frame, place int64) bool {
	switch f.Kind {
	case api.SchemaFrame:
		if f.Number == w.number {
			return schema.Same(f.Schema, w.schemas[w.number].schema)
		}
		return f.Number == w.number+1
	case api.DataFrame:
		return f.Number == w.number && f.Seq == w.frames && f.First == w.rows
	}
	x := f.Index
	return x.At == place && x.Frames == w.frames && x.Rows == w.rows && slices.Equal(x.Entries, w.entries)
}

// take takes a frame that follows.
func (w *Walk) take(f api.Frame, place int64) {
	switch f.Kind {
	case api.SchemaFrame:
		w.learn(f.Number, f.Schema, place)
	case api.DataFrame:
		w.enter(f, place)
		w.frames++
		w.rows += int64(f.Rows)
		w.since++
	}
	w.closed = f.Kind == api.IndexFrame
}

// learn takes a schema frame of the greatest number.
func (w *Walk) learn(number int64, s api.Schema, place int64) {
	w.schemas[number] = known{copied(s), place}
	w.number = number
	w.since = 0
}

// enter makes the data frame's entry, if an index has one of it.
func (w *Walk) enter(f api.Frame, place int64) {
	if f.Seq%api.IndexEvery == 0 && len(w.entries) < api.MaxIndexEntries {
		w.entries = append(w.entries, api.Entry{At: place, Row: f.First, Schema: w.schemas[w.number].place})
	}
}

// Frames, Rows: how many data frames, rows; Number the schema that counts; Since how many data frames came since its last frame.
func (w *Walk) Frames() int64 { return w.frames }

func (w *Walk) Rows() int64 { return w.rows }

func (w *Walk) Number() int64 { return w.number }

func (w *Walk) Since() int { return w.since }

// Schema is the schema of a number, Place where its last frame stands.
func (w *Walk) Schema(number int64) (api.Schema, bool) {
	k, ok := w.schemas[number]
	if !ok {
		return api.Schema{}, false
	}
	return copied(k.schema), true
}

func (w *Walk) Place(number int64) (int, bool) {
	k, ok := w.schemas[number]
	return int(k.place), ok
}

// Entries are an index's so far; Closed tells whether the last frame is an index.
func (w *Walk) Entries() []api.Entry { return slices.Clone(w.entries) }

func (w *Walk) Closed() bool { return w.closed }

// Clone is another one of the same.
func (w *Walk) Clone() *Walk {
	c := *w
	c.schemas = maps.Clone(w.schemas)
	c.entries = slices.Clone(w.entries)
	return &c
}

// copied is a schema in memory of its own, its floats fixed. It may be, so that neither call has an error.
func copied(s api.Schema) api.Schema {
	b, _ := schema.Encode(s)
	own, _ := schema.Decode(b)
	return own
}

// small tells whether a number may be a schema's.
func small(number int64) bool { return number >= 0 && number < api.MaxNumber }

// large tells whether numbers may be those of data frames, of rows, and places.
func large(numbers ...int64) bool {
	for _, n := range numbers {
		if n < 0 || n >= api.MaxSeq {
			return false
		}
	}
	return true
}
