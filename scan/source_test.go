package scan_test

import (
	"bytes"
	"slices"
	"testing"

	"gabion/api"
	"gabion/frame"
)

// source is bytes that are taken one by one; behind their end come zeros.
type source struct{ left []byte }

func (r *source) next() int {
	if len(r.left) == 0 {
		return 0
	}
	b := r.left[0]
	r.left = r.left[1:]
	return int(b)
}

func (r *source) schema() api.Schema {
	return []api.Schema{ints, texts, pairs, floats, nested, longSchema(300)}[r.next()%6]
}

func (r *source) block() string {
	n := r.next() % 40
	if r.next() >= 250 {
		n = 2160 + n
	}
	return string(mixedBytes(uint64(r.next()), n, 3))
}

// right is a frame that follows the words' frames; of a walk without a schema frame often none.
func (r *source) right(w words, at int) api.Frame {
	number := w.Number()
	switch r.next() % 8 {
	case 0:
		return schemaFrame(number+1, r.schema())
	case 1:
		s, _ := w.Schema(number)
		return schemaFrame(number, s)
	case 2:
		return w.ownIndex(int64(at))
	}
	return w.ownData(1+r.next()%64, r.block())
}

// shift is by how much a wrong number is wrong.
func (r *source) shift() int64 {
	return []int64{1, -1, 2, 4, -4, 1 << 31, 1 << 32, 1 << 40, -1 << 40, -1 << 63}[r.next()%10]
}

// wrong changes a frame in one thing, which may not count.
func (r *source) wrong(f api.Frame) api.Frame {
	f.Index.Entries = slices.Clone(f.Index.Entries)
	n := len(f.Index.Entries)
	switch r.next() % 14 {
	case 0:
		f.Kind += int(r.shift() % 5)
	case 1:
		f.Number += r.shift()
	case 2:
		f.Seq += r.shift()
	case 3:
		f.First += r.shift()
	case 4:
		f.Rows += int(r.shift())
	case 5:
		f.Block = row(7, 2100+r.next())
	case 6:
		f.Schema = r.schema()
	case 7:
		l := wrongSchemas()
		f.Schema = l[r.next()%len(l)]
	case 8:
		f.Index.At += r.shift()
	case 9:
		f.Index.Frames += r.shift()
	case 10:
		f.Index.Rows += r.shift()
	case 11:
		f.Index.Entries = append(f.Index.Entries, entry(int64(r.next()), int64(r.next()), int64(r.next())))
	case 12:
		f.Index.Entries = f.Index.Entries[:n-min(n, 1)]
	case 13:
		if n > 0 {
			one := &f.Index.Entries[r.next()%n]
			*[]*int64{&one.At, &one.Row, &one.Schema}[r.next()%3] += r.shift()
		}
	}
	return f
}

// step hands a walk a mixed frame: most often one that follows.
func (r *source) step(t *testing.T, p *pair, at int) api.Errno {
	t.Helper()
	f := r.right(p.words, at)
	switch wild := r.next(); {
	case wild >= 192:
		f = r.wrong(f)
	case wild >= 180:
		at += int(r.shift())
	}
	return p.next(t, f, at)
}

// TestMixedWalks: P14.2, P14.3: walks of mixed frames, right ones and wrong ones.
func TestMixedWalks(t *testing.T) {
	took, refused := 0, 0
	for k := range uint64(42) {
		p, r := fresh(), &source{mixedBytes(k, 1200, 0)}
		if k%3 == 2 {
			p = resume(t, int64(r.next()%70*4), int64(r.next()), int64(r.next()), r.schema())
		}
		for i := 0; len(r.left) > 20; i++ {
			if r.step(t, p, 10*i) == api.OK {
				took++
			} else {
				refused++
			}
			p.stands(t)
		}
	}
	if took < 3500 || refused < 700 {
		t.Fatalf("only %d frames that follow, and %d that don't", took, refused)
	}
}

// FuzzWalk: P14.2, P14.3, R5: frames that the fuzzer makes up, for a walk and for a clone of it.
func FuzzWalk(f *testing.F) {
	for k := range uint64(20) {
		f.Add(mixedBytes(k, 300, 0), k%2 == 0)
	}
	f.Fuzz(func(t *testing.T, b []byte, resuming bool) {
		r := &source{b}
		all := []*pair{fresh()}
		if resuming {
			all[0] = resume(t, int64(r.next()%70*4), int64(r.next()), int64(r.next()), r.schema())
		}
		for i := 0; len(r.left) > 0 && i < 400; i++ {
			if r.next() >= 250 && len(all) < 4 {
				all = append(all, all[r.next()%len(all)].clone())
			}
			r.step(t, all[r.next()%len(all)], 10*i)
			for _, p := range all {
				p.stands(t)
			}
		}
	})
}

// FuzzWhole: P14.1, P14.5, P14.6: files that the fuzzer makes up: frames that follow, frames that don't, noise; and then cut and damaged.
func FuzzWhole(f *testing.F) {
	for k := range uint64(20) {
		f.Add(mixedBytes(k, 200, 0), mixedBytes(k+50, 10, 2), uint16(0), uint16(mixed(k)))
		f.Add(mixedBytes(k, 200, 0), []byte{}, uint16(mixed(k)), uint16(5))
	}
	f.Fuzz(func(t *testing.T, b, noise []byte, damage, cut uint16) {
		r, l := &source{b}, &laid{}
		for i := 0; len(r.left) > 0 && i < 300; i++ {
			one := r.right(l.words, len(l.b))
			if r.next() >= 230 {
				one = r.wrong(one)
			}
			if _, e := frame.Encode(one); e == api.OK {
				l.lay(one)
			}
		}
		all := join(l.b, noise)
		asWhole(t, device(all))
		all = bytes.Clone(all[:len(all)-int(cut)%(len(all)+1)])
		asWhole(t, device(all))
		if len(all) > 0 {
			all[int(damage)%len(all)] ^= byte(damage>>8) | 1
			d := device(all)
			_, at, _ := asWhole(t, d)
			for _, place := range []int{at - 1, at, at + 1, int(damage) % len(all)} {
				asAt(t, d, place)
			}
		}
	})
}
