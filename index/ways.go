package index

import (
	"slices"

	"gabion/api"
	"gabion/dev"
	"gabion/reader"
	"gabion/scan"
)

// ways are the two ways to a row: one that an index may lead, and may not, and one that is always there.
type ways struct {
	short func(d *dev.Dev, x api.Index, n int64) *reader.Reader // nil, where the index does not lead there
	long  func(d *dev.Dev, n int64) (*reader.Reader, api.Errno)
}

func bothWays() ways { return ways{short: byIndex, long: fromBeginning} }

// seek goes the short way, if it can.
func (w ways) seek(d *dev.Dev, n int64) (*reader.Reader, api.Errno) {
	x, is := freshIndex(d)
	if !is {
		return w.long(d, n)
	}
	if n >= x.Rows {
		return nil, api.ErrRange
	}
	if r := w.short(d, x, n); r != nil {
		return r, api.OK
	}
	return w.long(d, n)
}

// byIndex reads from the last entry's data frame on that is not behind the row.
func byIndex(d *dev.Dev, x api.Index, n int64) *reader.Reader {
	k := lastEntry(x, n)
	if k < 0 {
		return nil
	}
	w := led(d, x, k)
	if w == nil {
		return nil
	}
	entry := x.Entries[k]
	return reader.From(d, int(entry.At), int(n-entry.Row), w)
}

// lastEntry is the number of the last entry whose row is at most n, or below 0. A wrong index's rows may not rise, so that they can't be searched by halves.
func lastEntry(x api.Index, n int64) int {
	for k, entry := range slices.Backward(x.Entries) {
		if entry.Row <= n {
			return k
		}
	}
	return -1
}

// led is the walk ahead of an entry's data frame, if both frames that the entry names stand where it says, and are what it says; else nil.
func led(d *dev.Dev, x api.Index, k int) *scan.Walk {
	entry := x.Entries[k]
	s, _, _ := scan.At(d, int(entry.Schema)) // with an error it is a frame of no kind
	if s.Kind != api.SchemaFrame {
		return nil
	}
	f, _, _ := scan.At(d, int(entry.At))
	if f.Kind != api.DataFrame || f.Number != s.Number || f.Seq != api.IndexEvery*int64(k) || f.First != entry.Row {
		return nil
	}
	return scan.Resume(x, k, api.Numbered{Number: s.Number, Schema: s.Schema})
}

// fromBeginning reads from the first row on, and passes n of them over, if there is one behind these.
func fromBeginning(d *dev.Dev, n int64) (*reader.Reader, api.Errno) {
	if !tells(reader.Raw(d), n) {
		return nil, api.ErrRange
	}
	return reader.From(d, 0, int(n), scan.New()), api.OK
}

// tells tells whether a reader tells a row behind n others.
func tells(r *reader.Reader, n int64) bool {
	for range n {
		if _, is := r.Next(); !is {
			return false
		}
	}
	_, is := r.Next()
	return is
}
