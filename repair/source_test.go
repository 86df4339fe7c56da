package repair_test

import (
	"bytes"
	"testing"

	"gabion/api"
	"gabion/frame"
)

// source is bytes that are taken one by one; behind their end come zeros.
type source struct{ left []byte }

func (r *source) next() int {
	if len(r.left) == 0 {
		return 0
	}
	b := r.left[0]
	r.left = r.left[1:]
	return int(b)
}

func (r *source) schema() api.Schema {
	return []api.Schema{ints, texts, pairs, floats, nested, longSchema(300)}[r.next()%6]
}

// right is a frame that follows the words' frames; of none often one that may not be.
func (r *source) right(l *laid) api.Frame {
	number := l.Number()
	switch r.next() % 6 {
	case 0:
		return schemaFrame(number+1, r.schema())
	case 1:
		s, _ := l.Schema(number)
		return schemaFrame(number, s)
	case 2:
		return l.ownIndex(int64(len(l.b)))
	}
	return l.ownData(1+r.next()%64, string(mixedBytes(uint64(r.next()), r.next()%40, 3)))
}

// wrong changes a frame in one thing, which may not count.
func (r *source) wrong(f api.Frame) api.Frame {
	by := []int64{1, -1, 2, 4, 1 << 31}[r.next()%5]
	switch r.next() % 8 {
	case 0:
		f.Kind = r.next() % 4
	case 1:
		f.Number += by
	case 2:
		f.Seq += by
	case 3:
		f.First += by
	case 4:
		f.Schema = r.schema()
	case 5:
		f.Index.At += by
	case 6:
		f.Index.Rows += by
	case 7:
		f.Index.Entries = append(f.Index.Entries, entry(by, by, by))
	}
	return f
}

// file is a file of mixed frames: most often such as follow.
func (r *source) file() *laid {
	l := &laid{}
	for i := 0; len(r.left) > 0 && i < 200; i++ {
		one := r.right(l)
		if r.next() >= 250 {
			one = r.wrong(one)
		}
		if _, e := frame.Encode(one); e == api.OK {
			l.lay(one)
		}
	}
	return l
}

// asBoth holds Look and Do of a file of these bytes against the words.
func asBoth(t *testing.T, b []byte) api.Errno {
	t.Helper()
	d := device(b)
	_, _, e := asLook(t, d)
	if _, done := asDo(t, d); done != e {
		t.Fatalf("Look %d, Do %d", e, done)
	}
	return e
}

// TestMixed: P15.1 to P15.3: mixed files, with noise behind them, cut, and damaged.
func TestMixed(t *testing.T) {
	told := map[api.Errno]int{}
	for k := range uint64(300) {
		b := (&source{mixedBytes(k, 30+int(k), 0)}).file().b
		told[asBoth(t, join(b, mixedBytes(k, int(k%50), 3)))]++
		m := mixed(k)
		b = bytes.Clone(b[:uint64(len(b))-m%(uint64(len(b))/2+1)])
		told[asBoth(t, b)]++
		for i := range uint64(3) {
			if m = mixed(m + i); len(b) > 0 {
				b[m%uint64(len(b))] = byte(m >> 32 & (m >> 40))
			}
			told[asBoth(t, b)]++
		}
	}
	if told[api.OK] < 200 || told[api.ErrDamaged] < 200 {
		t.Fatalf("only these: %v", told)
	}
}

// FuzzRepair: P15.1 to P15.3: files that the fuzzer makes up: frames that follow, frames that don't, noise; and then cut and damaged.
func FuzzRepair(f *testing.F) {
	for k := range uint64(20) {
		f.Add(mixedBytes(k, 200, 0), mixedBytes(k+50, 10, 2), uint16(0), uint16(mixed(k)))
		f.Add(mixedBytes(k, 200, 0), []byte{}, uint16(mixed(k)), uint16(5))
	}
	f.Fuzz(func(t *testing.T, b, noise []byte, damage, cut uint16) {
		all := join((&source{b}).file().b, noise)
		asBoth(t, all)
		all = bytes.Clone(all[:len(all)-int(cut)%(len(all)+1)])
		asBoth(t, all)
		if len(all) > 0 {
			all[int(damage)%len(all)] ^= byte(damage>>8) | 1
			asBoth(t, all)
		}
	})
}
