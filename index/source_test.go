package index_test

import (
	"bytes"
	"math"
	"strconv"
	"strings"
	"testing"

	"gabion/api"
	"gabion/batch"
	"gabion/frame"
	"gabion/schema"
)

// source is bytes that are taken one by one; behind their end come zeros.
type source struct{ left []byte }

func (r *source) next() int {
	if len(r.left) == 0 {
		return 0
	}
	b := r.left[0]
	r.left = r.left[1:]
	return int(b)
}

// kinds is a type at a depth, one that may be.
func (r *source) kinds(depth int) api.Type {
	k := 1 + r.next()%7
	switch {
	case k < 6:
		return kind(k)
	case depth == 4:
		return ofInt
	}
	return kind(k, r.kinds(depth+1))
}

var someInts = []int64{0, 1, -1, 1 << 53, 1<<53 + 1, -1<<53 - 1, math.MaxInt64, math.MinInt64, 12345}

var someFloats = []uint64{0, 1 << 63, math.Float64bits(1), math.Float64bits(0.5), math.Float64bits(-7), 0x7ff0000000000000, 0xfff0000000000000, theNaN, 0xfff8000000000001, math.Float64bits(1 << 53)}

var someTexts = []string{"", "a", "\x00", "\u00e9", strings.Repeat("xy", 20), "\xff", "a\xc3"}

// value is a value of the type.
func (r *source) value(t api.Type) api.Value {
	v := api.Value{Kind: t.Kind}
	wild := r.next()
	switch t.Kind {
	case api.Bool:
		v.Int = int64(wild % 2)
	case api.Int:
		v.Int = someInts[wild%len(someInts)]
	case api.Float:
		v = bits(someFloats[wild%len(someFloats)])
	case api.Text:
		v.Text = someTexts[wild%5]
	case api.Bytes:
		v.Text = someTexts[wild%len(someTexts)]
	case api.Opt:
		for range wild % 3 % 2 {
			v.Items = append(v.Items, r.value(t.Of[0]))
		}
	case api.List:
		for range wild % 4 {
			v.Items = append(v.Items, r.value(t.Of[0]))
		}
	}
	return v
}

// rows are at most n rows of a schema, as many as can be a block.
func (r *source) rows(s api.Schema, n int) []api.Row {
	var l []api.Row
	for range n {
		one := api.Row{}
		for _, c := range s.Columns {
			one.Values = append(one.Values, r.value(c.Type))
		}
		if _, e := batch.Size(s, append(l, one)); e != api.OK {
			break
		}
		l = append(l, one)
	}
	return l
}

// schema is a schema that may be, of a few names, so that two of them often have some of these.
func (r *source) schema() api.Schema {
	var s api.Schema
	first := r.next() % 3
	for i := range 1 + r.next()%3 {
		c := plain("c"+strconv.Itoa(first+i), r.kinds(1))
		if r.next()%2 == 0 {
			c.Has, c.Default = true, r.value(c.Type)
		}
		s.Columns = append(s.Columns, c)
	}
	if schema.Check(s) != api.OK {
		return ints
	}
	return s
}

// right is a frame that follows the file's frames; of none often one that may not be.
func (r *source) right(l *laid) api.Frame {
	number := l.Number()
	s, is := l.words.schema()
	switch r.next() % 7 {
	case 0:
		return schemaFrame(number+1, r.schema())
	case 1:
		return schemaFrame(number, s)
	case 2:
		return l.ownIndex(int64(len(l.b)))
	}
	if !is {
		return schemaFrame(0, r.schema())
	}
	rows := r.rows(s, 1+r.next()%12)
	if len(rows) == 0 {
		return api.Frame{}
	}
	return l.ownData(len(rows), packed(s, rows))
}

// wrong changes a frame in one thing, which may not count.
func (r *source) wrong(f api.Frame) api.Frame {
	by := []int64{1, -1, 2, 4, 1 << 31}[r.next()%5]
	switch r.next() % 8 {
	case 0:
		f.Number += by
	case 1:
		f.Seq += by
	case 2:
		f.First += by
	case 3:
		f.Schema = r.schema()
	case 4:
		f.Index.At += by
	case 5:
		f.Rows += int(by)
	case 6:
		f.Block = bytes.Clone(f.Block[:len(f.Block)/2])
	case 7:
		f.Block = mixedBytes(uint64(r.next()), r.next()%20, 3)
	}
	return f
}

// file is a file of mixed frames: most often such as follow.
func (r *source) file() *laid {
	l := &laid{}
	for i := 0; len(r.left) > 0 && i < 100; i++ {
		one := r.right(l)
		if r.next() >= 252 {
			one = r.wrong(one)
		}
		if _, e := frame.Encode(one); e == api.OK {
			l.lay(one)
		}
	}
	return l
}

// rowsAsked are numbers of rows, most often such as there are.
func (r *source) rowsAsked(n int64) []int64 {
	all := []int64{-1, 0, n - 1, n}
	for range 6 {
		all = append(all, int64(256*r.next()+r.next())%(n+2))
	}
	return all
}

// close lays an index behind the file, often one that is wrong in one thing.
func (r *source) close(l *laid) {
	f := l.ownIndex(int64(len(l.b)))
	x := &f.Index
	by := []int64{1, -1, 2, 4, 17}[r.next()%5]
	fields := []*int64{&x.At, &x.Frames, &x.Rows}
	for i := range x.Entries {
		fields = append(fields, &x.Entries[i].At, &x.Entries[i].Row, &x.Entries[i].Schema)
	}
	switch wild := r.next(); {
	case wild < 128:
		*fields[r.next()%len(fields)] += by
	case wild < 160:
		x.Entries = x.Entries[:r.next()%(len(x.Entries)+1)]
	case wild < 192 && len(l.all) > 0:
		*fields[r.next()%len(fields)] = l.all[r.next()%len(l.all)].at
	}
	if _, e := frame.Encode(f); e == api.OK {
		l.lay(f)
	}
}

// askAll asks all calls of a file, and tells how often the index led.
func (r *source) askAll(t *testing.T, b []byte) (led int) {
	t.Helper()
	p := lookAt(device(b))
	p.askLast(t)
	p.askBuild(t)
	for _, n := range r.rowsAsked(max(p.last.Rows, int64(len(p.beginning.told))) % (1 << 20)) {
		if _, leads := p.ask(t, n); leads {
			led++
		}
	}
	return led
}

// TestMixed: P18.1 to P18.5: mixed files, with right and wrong indexes behind them; cut and damaged.
func TestMixed(t *testing.T) {
	fresh, led := 0, 0
	for k := range uint64(400) {
		l := (&source{mixedBytes(k, 60+int(k)%150, 0)}).file()
		r := &source{mixedBytes(k+1000, 900, 0)}
		r.close(l)
		b := bytes.Clone(l.b)
		for i := range uint64(4) {
			if _, is := wordFresh(b); is {
				fresh++
			}
			led += r.askAll(t, b)
			switch m := mixed(k<<8 + i); {
			case len(b) == 0:
			case i == 2:
				b = b[:uint64(len(b))-m%uint64(len(b))]
			default:
				b[m%uint64(len(b))] = byte(m >> 32 & (m >> 40))
			}
		}
	}
	if fresh < 200 || led < 1000 {
		t.Fatalf("only %d fresh indexes, which led %d times", fresh, led)
	}
}

// FuzzIndex: P18.1 to P18.5: files that the fuzzer makes up, with an index, with noise, cut and damaged.
func FuzzIndex(f *testing.F) {
	for k := range uint64(20) {
		f.Add(mixedBytes(k, 200, 0), []byte{}, mixedBytes(k+90, 60, 0), uint16(0), uint16(0))
		f.Add(mixedBytes(k, 200, 0), mixedBytes(k+50, 10, 2), mixedBytes(k+90, 60, 0), uint16(mixed(k)), uint16(mixed(k+9)))
	}
	f.Fuzz(func(t *testing.T, b, noise, way []byte, damage, cut uint16) {
		l := (&source{b}).file()
		r := &source{way}
		r.close(l)
		r.askAll(t, l.b)
		all := join(l.b, noise)
		all = all[:len(all)-int(cut)%(len(all)+1)]
		r.askAll(t, all)
		if len(all) > 0 {
			all[int(damage)%len(all)] ^= byte(damage>>8) | 1
		}
		r.askAll(t, all)
	})
}
