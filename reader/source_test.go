package reader_test

import (
	"bytes"
	"math"
	"strconv"
	"strings"
	"testing"

	"gabion/api"
	"gabion/batch"
	"gabion/frame"
	"gabion/schema"
)

// source is bytes that are taken one by one; behind their end come zeros.
type source struct{ left []byte }

func (r *source) next() int {
	if len(r.left) == 0 {
		return 0
	}
	b := r.left[0]
	r.left = r.left[1:]
	return int(b)
}

// kinds is a type at a depth, one that may be.
func (r *source) kinds(depth int) api.Type {
	k := 1 + r.next()%7
	switch {
	case k < 6:
		return kind(k)
	case depth == 4:
		return ofInt
	}
	return kind(k, r.kinds(depth+1))
}

var someInts = []int64{0, 1, -1, 1 << 53, 1<<53 + 1, -1<<53 - 1, math.MaxInt64, math.MinInt64, 12345}

var someFloats = []uint64{0, 1 << 63, math.Float64bits(1), math.Float64bits(0.5), math.Float64bits(-7), 0x7ff0000000000000, 0xfff0000000000000, theNaN, 0xfff8000000000001, math.Float64bits(1 << 53)}

var someTexts = []string{"", "a", "\x00", "\u00e9", strings.Repeat("xy", 20), "\xff", "a\xc3"}

// value is a value of the type.
func (r *source) value(t api.Type) api.Value {
	v := api.Value{Kind: t.Kind}
	wild := r.next()
	switch t.Kind {
	case api.Bool:
		v.Int = int64(wild % 2)
	case api.Int:
		v.Int = someInts[wild%len(someInts)]
	case api.Float:
		v = bits(someFloats[wild%len(someFloats)])
	case api.Text:
		v.Text = someTexts[wild%5]
	case api.Bytes:
		v.Text = someTexts[wild%len(someTexts)]
	case api.Opt:
		for range wild % 3 % 2 {
			v.Items = append(v.Items, r.value(t.Of[0]))
		}
	case api.List:
		for range wild % 4 {
			v.Items = append(v.Items, r.value(t.Of[0]))
		}
	}
	return v
}

// rows are at most n rows of a schema, as many as can be a block.
func (r *source) rows(s api.Schema, n int) []api.Row {
	var l []api.Row
	for range n {
		one := api.Row{}
		for _, c := range s.Columns {
			one.Values = append(one.Values, r.value(c.Type))
		}
		if _, e := batch.Size(s, append(l, one)); e != api.OK {
			break
		}
		l = append(l, one)
	}
	return l
}

// schema is a schema that may be, of a few names, so that two of them often have some of these.
func (r *source) schema() api.Schema {
	var s api.Schema
	first := r.next() % 3
	for i := range 1 + r.next()%3 {
		c := plain("c"+strconv.Itoa(first+i), r.kinds(1))
		if r.next()%2 == 0 {
			c.Has, c.Default = true, r.value(c.Type)
		}
		s.Columns = append(s.Columns, c)
	}
	if schema.Check(s) != api.OK {
		return ints
	}
	return s
}

// near is a schema under which rows of s can be read, most often: some of its columns in another order, of near types, and some with a default.
func (r *source) near(s api.Schema) api.Schema {
	var told api.Schema
	for i := range s.Columns {
		c := s.Columns[(i+r.next())%len(s.Columns)]
		if _, twice := schema.Find(told, c.Name); twice {
			continue
		}
		c = plain(c.Name, r.nearType(c.Type))
		if r.next()%3 == 0 {
			c.Has, c.Default = true, r.value(c.Type)
		}
		told.Columns = append(told.Columns, c)
	}
	if r.next()%3 == 0 {
		told.Columns = append(told.Columns, with("more", ofFloat, bits(someFloats[r.next()%len(someFloats)])))
	}
	if schema.Check(told) != api.OK {
		return s
	}
	return told
}

func (r *source) nearType(t api.Type) api.Type {
	switch wild := r.next() % 8; {
	case wild == 0 && t.Kind != api.Opt:
		t = optOf(t)
	case wild == 1 && t.Kind == api.Opt:
		t = t.Of[0]
	case wild < 5:
		t = kind([]int{0, api.Int, api.Float, api.Int, api.Bytes, api.Text, api.Opt, api.List}[t.Kind], t.Of...)
	}
	if schema.CheckType(t) != api.OK {
		return ofInt
	}
	return t
}

// right is a frame that follows the file's frames; of none often one that may not be.
func (r *source) right(l *laid) api.Frame {
	number := l.Number()
	s, is := l.words.schema()
	switch r.next() % 7 {
	case 0:
		return schemaFrame(number+1, r.schema())
	case 1:
		return schemaFrame(number, s)
	case 2:
		return l.ownIndex(int64(len(l.b)))
	}
	if !is {
		return schemaFrame(0, r.schema())
	}
	rows := r.rows(s, 1+r.next()%12)
	if len(rows) == 0 {
		return api.Frame{}
	}
	return l.ownData(len(rows), packed(s, rows))
}

// wrong changes a frame in one thing, which may not count.
func (r *source) wrong(f api.Frame) api.Frame {
	by := []int64{1, -1, 2, 4, 1 << 31}[r.next()%5]
	switch r.next() % 8 {
	case 0:
		f.Number += by
	case 1:
		f.Seq += by
	case 2:
		f.First += by
	case 3:
		f.Schema = r.schema()
	case 4:
		f.Index.At += by
	case 5:
		f.Rows += int(by)
	case 6:
		f.Block = bytes.Clone(f.Block[:len(f.Block)/2])
	case 7:
		f.Block = mixedBytes(uint64(r.next()), r.next()%20, 3)
	}
	return f
}

// file is a file of mixed frames: most often such as follow.
func (r *source) file() *laid {
	l := &laid{}
	for i := 0; len(r.left) > 0 && i < 100; i++ {
		one := r.right(l)
		if r.next() >= 252 {
			one = r.wrong(one)
		}
		if _, e := frame.Encode(one); e == api.OK {
			l.lay(one)
		}
	}
	return l
}

// followed is how many of a file's frames follow one another.
func (l *laid) followed() int {
	for k, one := range l.all {
		if !l.firstOf(k).follows(one.f, one.at) {
			return k
		}
	}
	return len(l.all)
}

// some is a reader of the file: as it was written, under one of its schemas, a near one or any, or from one of its frames on.
func (r *source) some(t *testing.T, l *laid, b []byte) *pair {
	t.Helper()
	d := device(b)
	s, is := l.firstOf(l.followed()).schema()
	switch wild := r.next() % 6; {
	case wild == 0:
		return raw(t, d)
	case wild == 1 || !is:
		return as(t, d, r.schema())
	case wild == 2:
		return as(t, d, s)
	case wild == 3:
		return as(t, d, r.near(s))
	case wild == 4:
		return as(t, d, s, s.Columns[r.next()%len(s.Columns)].Name)
	}
	k := r.next() % (l.followed() + 1)
	at := l.place(k)
	if r.next() >= 200 {
		at += r.next() - 100
	}
	return from(t, d, at, r.next()-20, l.firstOf(k).walk(), l.firstOf(k))
}

// change changes a file while it is read.
func (r *source) change(p *pair) {
	n := p.d.Len()
	switch r.next() % 6 {
	case 0:
		p.d.Cut(n - min(n, r.next()))
	case 1:
		p.d.Damage((256*r.next()+r.next())%(n+1), byte(r.next()))
	case 2:
		p.d.Tail(mixedBytes(uint64(r.next()), r.next()%30, 3))
	case 3:
		if p.words.Number() >= 0 {
			p.d.Tail(encoded(p.words.ownData(1, "\x00\x02")))
		}
	case 4:
		if p.d.Up() {
			takeDown(p.d)
		}
	case 5:
		p.d.Start()
	}
}

// readOn reads a file row by row, which is changed meanwhile, if that is asked for; and then all that is left.
func (r *source) readOn(t *testing.T, p *pair, changing bool) int {
	t.Helper()
	told := 0
	for range r.next() % 64 {
		if _, is := p.next(t); is {
			told++
		}
		if changing && r.next() >= 240 {
			r.change(p)
		}
	}
	told += len(p.all(t))
	p.over(t)
	return told
}

// TestMixed: P16.1 to P16.3: mixed files, under mixed schemas and from mixed places on; cut, damaged, and changed while they are read.
func TestMixed(t *testing.T) {
	ends, rows := map[api.Errno]int{}, 0
	for k := range uint64(400) {
		l := (&source{mixedBytes(k, 60+int(k)%200, 0)}).file()
		r := &source{mixedBytes(k+1000, 900, 0)}
		b := bytes.Clone(l.b)
		for i := range uint64(6) {
			p := r.some(t, l, b)
			rows += r.readOn(t, p, i == 5)
			ends[p.r.Err()]++
			switch m := mixed(k<<8 + i); {
			case i == 2:
				b = b[:uint64(len(b))-m%(uint64(len(b))/2+1)]
			case i > 2 && len(b) > 0:
				b[m%uint64(len(b))] = byte(m >> 32 & (m >> 40))
			}
		}
	}
	if rows < 20000 || ends[api.OK] < 500 || ends[api.ErrOrder] < 50 || ends[api.ErrTorn] < 50 || ends[api.ErrSum] < 50 || len(ends) < 10 {
		t.Fatalf("only %d rows, and these: %v", rows, ends)
	}
}

// FuzzReader: P16.1 to P16.3: files that the fuzzer makes up, with noise, cut and damaged, read in a way that it makes up, and changed meanwhile.
func FuzzReader(f *testing.F) {
	for k := range uint64(20) {
		f.Add(mixedBytes(k, 200, 0), mixedBytes(k+50, 10, 2), mixedBytes(k+90, 60, 0), uint16(0), uint16(mixed(k)))
		f.Add(mixedBytes(k, 200, 0), []byte{}, mixedBytes(k+70, 60, 0), uint16(mixed(k)), uint16(0))
	}
	f.Fuzz(func(t *testing.T, b, noise, way []byte, damage, cut uint16) {
		l := (&source{b}).file()
		r := &source{way}
		r.readOn(t, r.some(t, l, l.b), false)
		all := join(l.b, noise)
		all = all[:len(all)-int(cut)%(len(all)+1)]
		r.readOn(t, r.some(t, l, all), false)
		if len(all) > 0 {
			all[int(damage)%len(all)] ^= byte(damage>>8) | 1
		}
		r.readOn(t, r.some(t, l, all), false)
		r.readOn(t, r.some(t, l, all), true)
	})
}
