package index

import (
	"bytes"

	"gabion/api"
	"gabion/dev"
	"gabion/frame"
)

const (
	fence     = 0
	mostBytes = api.MaxFrame + 2 // of a frame, with its fences
)

// freshIndex is the file's last frame, if that is an index which what stands just ahead of it bears out.
func freshIndex(d *dev.Dev) (api.Index, bool) {
	f, at := frameAhead(d, d.Len())
	x := f.Index
	if f.Kind != api.IndexFrame || x.At != int64(at) || !bornOut(d, x, at) {
		return api.Index{}, false
	}
	return x, true
}

// bornOut tells whether the last data frame comes to what an index at that place says; none is needed of an index of nothing.
func bornOut(d *dev.Dev, x api.Index, at int) bool {
	if at == 0 {
		return x.Frames == 0 && x.Rows == 0
	}
	f, _ := frameAhead(d, at)
	return f.Kind == api.DataFrame && f.Seq == x.Frames-1 && f.First+int64(f.Rows) == x.Rows
}

// frameAhead is the frame whose closing fence is the last byte ahead of a place, and its own place; one of no kind, if there is none.
func frameAhead(d *dev.Dev, end int) (api.Frame, int) {
	from := max(0, end-mostBytes)
	b, _ := d.Read(from, end-from) // there are these places
	if len(b) == 0 || b[len(b)-1] != fence {
		return api.Frame{}, 0
	}
	b = b[:len(b)-1]
	opening := bytes.LastIndexByte(b, fence)
	if opening < 0 {
		return api.Frame{}, 0
	}
	f, e := frame.Decode(b[opening+1:])
	if e != api.OK {
		return api.Frame{}, 0
	}
	return f, from + opening
}
