package writer

import (
	"gabion/api"
	"gabion/batch"
	"gabion/frame"
)

// piece is frames, one behind the other, that are written at once.
type piece struct {
	frames []api.Frame
	starts []int // where each of them begins among the bytes
	bytes  []byte
}

// add lays a frame behind the others. frame.Encode takes whatever a writer makes: no block, schema or index that may be is too long for a frame.
func (p *piece) add(f api.Frame) {
	b, _ := frame.Encode(f)
	p.frames = append(p.frames, f)
	p.starts = append(p.starts, len(p.bytes))
	p.bytes = append(p.bytes, b...)
}

// appended is what an Append of rows writes.
func (w *Writer) appended(l []api.Row) (piece, api.Errno) {
	block, e := batch.Pack(w.schema, l)
	if e != api.OK {
		return piece{}, e
	}
	var p piece
	number := w.Number()
	if w.schemaDue(number) {
		p.add(api.Frame{Kind: api.SchemaFrame, Number: number, Schema: w.schema})
	}
	p.add(api.Frame{Kind: api.DataFrame, Number: number, Seq: w.walk.Frames(), First: w.walk.Rows(), Rows: len(l), Block: block})
	return p, api.OK
}

// schemaDue tells whether a schema frame must stand ahead of the next data frame of that schema's number.
func (w *Writer) schemaDue(number int64) bool {
	_, has := w.walk.Place(number)
	return !has || w.walk.Since() >= api.SchemaEvery
}

// writeIndex writes an index, and tells whether: none is needed where one is the last frame, and a file that has no space for it does without.
func (w *Writer) writeIndex() (bool, api.Errno) {
	if w.walk.Closed() {
		return false, api.OK
	}
	x := api.Index{At: int64(w.file.Len()), Frames: w.walk.Frames(), Rows: w.walk.Rows(), Entries: w.walk.Entries()}
	var p piece
	p.add(api.Frame{Kind: api.IndexFrame, Index: x})
	e := w.write(p)
	if e == api.ErrNoSpace {
		return false, api.OK
	}
	return e == api.OK, e
}

// write lays a piece behind the file's end by one Write, lest a schema frame be written where there is no space for the data frame; then the walk takes its frames.
func (w *Writer) write(p piece) api.Errno {
	at := w.file.Len()
	if e := w.file.Write(p.bytes); e != api.OK {
		return e
	}
	for i, f := range p.frames {
		w.walk.Next(f, at+p.starts[i]) // they follow, as they were made of the walk
	}
	return api.OK
}
