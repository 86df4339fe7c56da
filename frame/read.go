package frame

import (
	"bytes"

	"gabion/api"
	"gabion/leb"
	"gabion/schema"
)

// A reader reads fields that may be broken, although their check is right. At the first thing that is wrong it gives up by a panic with the error.
type reader struct{ left []byte }

func (r *reader) need(holds bool, e api.Errno) {
	if !holds {
		panic(e)
	}
}

// fields takes all that is left for the fields of that kind.
func (r *reader) fields(kind int) fields {
	switch kind {
	case api.SchemaFrame:
		return r.schemaFields()
	case api.DataFrame:
		return r.dataFields()
	case api.IndexFrame:
		return r.indexFields()
	}
	panic(api.ErrKind)
}

func (r *reader) schemaFields() schemaFields {
	number := r.number(api.MaxNumber)
	s, e := schema.Decode(r.left)
	r.need(e == api.OK, e)
	return schemaFields{number, s}
}

func (r *reader) dataFields() dataFields {
	number := r.number(api.MaxNumber)
	seq := r.large()
	first := r.large()
	rows := r.number(api.MaxRows + 1)
	r.need(rows > 0, api.ErrForm)
	// A copy, as the check stands in the room behind what is left.
	return dataFields{number, seq, first, int(rows), bytes.Clone(r.left)}
}

func (r *reader) indexFields() indexFields {
	x := api.Index{At: r.large(), Frames: r.large(), Rows: r.large()}
	for range r.number(api.MaxIndexEntries + 1) {
		x.Entries = append(x.Entries, api.Entry{At: r.large(), Row: r.large(), Schema: r.large()})
	}
	r.need(len(r.left) == 0, api.ErrForm)
	return indexFields{x}
}

func (r *reader) large() int64 { return r.number(api.MaxSeq) }

// number is one below a limit. It is held against that as a uint64, as it may be too great for an int64.
func (r *reader) number(limit uint64) int64 {
	n, behind, e := leb.Get(r.left, 0)
	r.need(e == api.OK && n < limit, api.ErrForm)
	r.left = r.left[behind:]
	return int64(n)
}
