package batch

import (
	"iter"

	"gabion/api"
	"gabion/row"
)

// encoded goes through rows' bytes, row by row. It ends with the first error.
func encoded(s api.Schema, l []api.Row) iter.Seq2[[]byte, api.Errno] {
	return func(yield func([]byte, api.Errno) bool) {
		for _, r := range l {
			b, e := row.Encode(s, r)
			if !yield(b, e) || e != api.OK {
				return
			}
		}
	}
}

// decoded goes through so many rows that stand one behind the other. It ends with the first error; bytes that are left behind the last row are one.
func decoded(s api.Schema, b []byte, rows int) iter.Seq2[api.Row, api.Errno] {
	return func(yield func(api.Row, api.Errno) bool) {
		at := 0
		for range rows {
			r, behind, e := row.Decode(s, b, at)
			if !yield(r, e) || e != api.OK {
				return
			}
			at = behind
		}
		if at < len(b) {
			yield(api.Row{}, api.ErrForm)
		}
	}
}
