package recast

import (
	"gabion/api"
	"gabion/batch"
	"gabion/reader"
	"gabion/writer"
)

// taker makes blocks of the rows that it is handed, and appends them.
type taker struct {
	writer *writer.Writer
	schema api.Schema
	most   int       // how many rows a block has at most
	block  []api.Row // the one that is not appended yet
	size   int       // how many bytes its rows come to: asked of each row once, as to ask it of all of them with each one more takes far longer
	counts Counts
}

// takeAll takes the rows that a reader tells, to the end, or until an Append is refused: why. A row is wanted only when the one ahead of it is taken, so that nothing is read behind a refusal, and never while something is written.
func (t *taker) takeAll(r *reader.Reader) (refused api.Errno) {
	wanted, told := make(chan struct{}), make(chan api.Told)
	go handOn(r, wanted, told)
	wanted <- struct{}{}
	for one := range told {
		if refused = t.take(one); refused == api.OK {
			wanted <- struct{}{}
		} else {
			close(wanted) // whereupon who reads closes the other one, too, and has ended
		}
	}
	if refused != api.OK {
		return refused
	}
	return t.appendBlock()
}

// handOn tells a reader's rows, each when it is wanted, until there are no more, or none is wanted any more.
func handOn(r *reader.Reader, wanted <-chan struct{}, told chan<- api.Told) {
	defer close(told)
	for range wanted {
		next, is := r.Next()
		if !is {
			return
		}
		told <- next
	}
}

// take takes a row into the block; where it has no place there, that one is appended first, or refused.
func (t *taker) take(one api.Told) api.Errno {
	if one.E != api.OK {
		t.counts.Left++
		return api.OK
	}
	size := t.sizeOf(one.Row)
	if len(t.block) == t.most || t.size+size > api.MaxBlock {
		if e := t.appendBlock(); e != api.OK {
			return e
		}
	}
	t.block = append(t.block, one.Row)
	t.size += size
	return api.OK
}

// sizeOf is how many bytes a row comes to; so many that none has a place beside it, if it may not stand in a block at all.
func (t *taker) sizeOf(r api.Row) int {
	size, e := batch.Size(t.schema, []api.Row{r})
	if e != api.OK {
		return api.MaxBlock + 1
	}
	return size
}

// appendBlock appends the block, if one was begun.
func (t *taker) appendBlock() api.Errno {
	if len(t.block) == 0 {
		return api.OK
	}
	if e := t.writer.Append(t.block); e != api.OK {
		return e
	}
	t.counts.Taken += int64(len(t.block))
	t.block, t.size = nil, 0
	return api.OK
}
