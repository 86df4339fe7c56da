package frame

import (
	"bytes"
	"slices"

	"gabion/api"
	"gabion/leb"
	"gabion/schema"
)

// fields are those of a frame that count, by its kind.
type fields interface {
	// encode is their bytes, or why they may not be.
	encode() ([]byte, api.Errno)
	// same tells whether others are of the same kind, and the same.
	same(other fields) bool
}

type schemaFields struct {
	number int64
	schema api.Schema
}

type dataFields struct {
	number, seq, first int64
	rows               int
	block              []byte
}

type indexFields struct{ index api.Index }

// fieldsOf is the fields of a frame that count; false, if its kind is none.
func fieldsOf(f api.Frame) (fields, bool) {
	switch f.Kind {
	case api.SchemaFrame:
		return schemaFields{f.Number, f.Schema}, true
	case api.DataFrame:
		return dataFields{f.Number, f.Seq, f.First, f.Rows, f.Block}, true
	case api.IndexFrame:
		return indexFields{f.Index}, true
	}
	return nil, false
}

// frameOf is the frame of these fields, with no other ones.
func frameOf(l fields) api.Frame {
	switch l := l.(type) {
	case schemaFields:
		return api.Frame{Kind: api.SchemaFrame, Number: l.number, Schema: l.schema}
	case dataFields:
		return api.Frame{Kind: api.DataFrame, Number: l.number, Seq: l.seq, First: l.first, Rows: l.rows, Block: l.block}
	case indexFields:
		return api.Frame{Kind: api.IndexFrame, Index: l.index}
	}
	return api.Frame{}
}

func (l schemaFields) encode() ([]byte, api.Errno) {
	if !below(api.MaxNumber, l.number) {
		return nil, api.ErrRange
	}
	b, e := schema.Encode(l.schema)
	if e != api.OK {
		return nil, e
	}
	return append(put(l.number), b...), api.OK
}

func (l dataFields) encode() ([]byte, api.Errno) {
	if !below(api.MaxNumber, l.number) || !below(api.MaxSeq, l.seq, l.first) || l.rows < 1 || l.rows > api.MaxRows {
		return nil, api.ErrRange
	}
	// A block that would be too long by itself may be any size: it is not copied first.
	if len(l.block) > api.MaxFrame {
		return nil, api.ErrLong
	}
	return append(put(l.number, l.seq, l.first, int64(l.rows)), l.block...), api.OK
}

func (l indexFields) encode() ([]byte, api.Errno) {
	x := l.index
	if !below(api.MaxSeq, x.At, x.Frames, x.Rows) {
		return nil, api.ErrRange
	}
	if len(x.Entries) > api.MaxIndexEntries {
		return nil, api.ErrMany
	}
	b := put(x.At, x.Frames, x.Rows, int64(len(x.Entries)))
	for _, entry := range x.Entries {
		if !below(api.MaxSeq, entry.At, entry.Row, entry.Schema) {
			return nil, api.ErrRange
		}
		b = append(b, put(entry.At, entry.Row, entry.Schema)...)
	}
	return b, api.OK
}

// below tells whether numbers are 0 to one fewer than a limit.
func below(limit int64, numbers ...int64) bool {
	for _, n := range numbers {
		if n < 0 || n >= limit {
			return false
		}
	}
	return true
}

// put is numbers' bytes, one behind the other. None of them is below 0.
func put(numbers ...int64) []byte {
	var b []byte
	for _, n := range numbers {
		b = append(b, leb.Put(uint64(n))...)
	}
	return b
}

func (l schemaFields) same(other fields) bool {
	o, ok := other.(schemaFields)
	return ok && l.number == o.number && schema.Same(l.schema, o.schema)
}

func (l dataFields) same(other fields) bool {
	o, ok := other.(dataFields)
	return ok && l.number == o.number && l.seq == o.seq && l.first == o.first && l.rows == o.rows && bytes.Equal(l.block, o.block)
}

func (l indexFields) same(other fields) bool {
	o, ok := other.(indexFields)
	return ok && l.index.At == o.index.At && l.index.Frames == o.index.Frames && l.index.Rows == o.index.Rows && slices.Equal(l.index.Entries, o.index.Entries)
}
