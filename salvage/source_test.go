package salvage_test

import (
	"bytes"
	"math"
	"slices"
	"strconv"
	"strings"
	"testing"

	"gabion/api"
	"gabion/batch"
	"gabion/schema"
)

// source is bytes that are taken one by one; behind their end come zeros.
type source struct{ left []byte }

func (r *source) next() int {
	if len(r.left) == 0 {
		return 0
	}
	b := r.left[0]
	r.left = r.left[1:]
	return int(b)
}

// kinds is a type at a depth, one that may be.
func (r *source) kinds(depth int) api.Type {
	k := 1 + r.next()%7
	switch {
	case k < 6:
		return kind(k)
	case depth == 4:
		return ofInt
	}
	return kind(k, r.kinds(depth+1))
}

var someInts = []int64{0, 1, -1, 1 << 53, 1<<53 + 1, -1<<53 - 1, math.MaxInt64, math.MinInt64, 12345}

var someFloats = []uint64{0, 1 << 63, math.Float64bits(1), math.Float64bits(0.5), math.Float64bits(-7), 0x7ff0000000000000, 0xfff0000000000000, theNaN, 0xfff8000000000001, math.Float64bits(1 << 53)}

var someTexts = []string{"", "a", "\x00", "\u00e9", strings.Repeat("xy", 20), "\xff", "a\xc3"}

// value is a value of the type.
func (r *source) value(t api.Type) api.Value {
	v := api.Value{Kind: t.Kind}
	wild := r.next()
	switch t.Kind {
	case api.Bool:
		v.Int = int64(wild % 2)
	case api.Int:
		v.Int = someInts[wild%len(someInts)]
	case api.Float:
		v = bits(someFloats[wild%len(someFloats)])
	case api.Text:
		v.Text = someTexts[wild%5]
	case api.Bytes:
		v.Text = someTexts[wild%len(someTexts)]
	case api.Opt:
		for range wild % 3 % 2 {
			v.Items = append(v.Items, r.value(t.Of[0]))
		}
	case api.List:
		for range wild % 4 {
			v.Items = append(v.Items, r.value(t.Of[0]))
		}
	}
	return v
}

// rows are at most n rows of a schema, as many as can be a block.
func (r *source) rows(s api.Schema, n int) []api.Row {
	var l []api.Row
	for range n {
		one := api.Row{}
		for _, c := range s.Columns {
			one.Values = append(one.Values, r.value(c.Type))
		}
		if _, e := batch.Size(s, append(l, one)); e != api.OK {
			break
		}
		l = append(l, one)
	}
	return l
}

// schema is a schema that may be.
func (r *source) schema() api.Schema {
	var s api.Schema
	first := r.next() % 3
	for i := range 1 + r.next()%3 {
		c := plain("c"+strconv.Itoa(first+i), r.kinds(1))
		if r.next()%2 == 0 {
			c.Has, c.Default = true, r.value(c.Type)
		}
		s.Columns = append(s.Columns, c)
	}
	if schema.Check(s) != api.OK {
		return ints
	}
	return s
}

// someNumbers are schemas' numbers, the last ones of which are not small.
var someNumbers = []int64{0, 1, 2, 5, 127, 128, maxNumber - 1, maxNumber, -1, 1 << 33}

// schemas are schemas and their numbers, a few of these twice, a few with another schema, or with one that may not be.
func (r *source) schemas() []api.Numbered {
	var l []api.Numbered
	for _, n := range someNumbers {
		l = append(l, named(n, r.schema()))
		switch r.next() % 12 {
		case 0:
			l = append(l, named(n, r.schema()))
		case 1:
			l = append(l, l[len(l)-1])
		case 2:
			l[len(l)-1].Schema = wrongSchemas()[r.next()%len(wrongSchemas())]
		case 3:
			l = l[:len(l)-1]
		}
	}
	for range r.next() % 8 {
		i, j := r.next()%max(1, len(l)), r.next()%max(1, len(l))
		if len(l) > 0 {
			l[i], l[j] = l[j], l[i]
		}
	}
	return l
}

// data is a data frame of rows of one of the schemas, most often under its number.
func (r *source) data(l []api.Numbered) []byte {
	number := someNumbers[r.next()%7]
	s, is := alone(l, number)
	if !is || schema.Check(s) != api.OK || r.next()%16 == 0 {
		s = r.schema()
	}
	rows := r.rows(s, 1+r.next()%12)
	if len(rows) == 0 {
		return nil
	}
	block := packed(s, rows)
	switch r.next() % 16 {
	case 0:
		block = block[:len(block)-1]
	case 1:
		block += "\x01"
	}
	return encoded(dataFrame(number, int64(r.next())<<(r.next()%30), int64(r.next())<<(r.next()%30), len(rows), block))
}

// piece is a frame, or something that is none.
func (r *source) piece(l []api.Numbered) []byte {
	switch wild := r.next() % 16; {
	case wild == 0:
		return mixedBytes(uint64(r.next()), r.next(), 3)
	case wild == 1:
		return mixedBytes(uint64(r.next()), r.next()*40, uint64(r.next())*10)
	case wild == 2:
		return row(0, r.next()%4)
	case wild == 3:
		return encoded(indexFrame(int64(r.next()), int64(r.next()), int64(r.next()), entry(1, 2, 3)))
	case wild < 8:
		one := named(someNumbers[r.next()%7], r.schema())
		if s, is := alone(l, one.Number); is && schema.Check(s) == api.OK && r.next()%16 > 0 {
			one.Schema = s
		}
		return encoded(schemaFrame(one.Number, one.Schema))
	}
	return r.data(l)
}

// pieces are bytes: frames, most often whole ones, and others, by the schemas of a list.
func (r *source) pieces(l []api.Numbered) []byte {
	var b []byte
	for i := 0; len(r.left) > 0 && i < 100; i++ {
		one := r.piece(l)
		if len(one) > 0 && r.next()%16 == 0 {
			switch at := r.next() * 7 % len(one); r.next() % 3 {
			case 0:
				one[at] ^= byte(r.next())
			case 1:
				one = one[:at]
			case 2:
				one = one[at:]
			}
		}
		b = append(b, one...)
	}
	return b
}

// cuts are places of bytes that go up.
func (r *source) cuts(b []byte) []int {
	var l []int
	for range r.next() % 40 {
		l = append(l, (256*r.next()+r.next())%(len(b)+1))
	}
	slices.Sort(l)
	return l
}

// ask asks all that can be asked of bytes and schemas, and tells how many schemas and batches there were, by the bytes' own schemas and by the others.
func ask(t *testing.T, l []api.Numbered, b []byte, cuts []int) (schemas, own, others int) {
	t.Helper()
	schemas = len(asSchemas(t, b))
	own = len(asAll(t, b))
	w := streamOf(l, b)
	w.pieces(t)
	w.pieces(t, cuts...)
	return schemas, own, len(w.told)
}

// TestMixed: P17.1 to P17.3, P17.5: mixed frames and others, damaged and cut, by their own schemas and by others.
func TestMixed(t *testing.T) {
	var schemas, own, others, doubtful int
	for k := range uint64(500) {
		r := &source{mixedBytes(k, 2500, 0)}
		l := r.schemas()
		w := &source{mixedBytes(k+1000, 100+int(k)%700, 0)}
		b := w.pieces(l)
		for i := range 4 {
			n, m, o := ask(t, l, b, r.cuts(b))
			schemas, own, others = schemas+n, own+m, others+o
			distinct := map[int64]int{}
			for _, x := range wordFrames(b) {
				distinct[x.Number]++
			}
			doubtful += len(distinct) - n
			if len(b) > 0 {
				b[mixed(k<<8+uint64(i))%uint64(len(b))] ^= byte(1 + i)
			}
		}
	}
	if schemas < 2000 || own < 4000 || others < 4000 || doubtful < 300 {
		t.Fatalf("only %d schemas, %d and %d batches, %d doubtful numbers", schemas, own, others, doubtful)
	}
}

// FuzzSalvage: P17.1 to P17.5: frames that the fuzzer makes up, by schemas that it makes up; noise put on, a byte damaged, cut anywhere.
func FuzzSalvage(f *testing.F) {
	for k := range uint64(20) {
		f.Add(mixedBytes(k, 120, 0), mixedBytes(k+50, 300, 0), mixedBytes(k+90, 10, 2), mixedBytes(k+130, 40, 0), uint32(mixed(k)))
	}
	f.Add([]byte{}, []byte{}, []byte{0, 1, 0, 0, 5, 5, 0}, []byte{}, uint32(0))
	f.Fuzz(func(t *testing.T, schemas, b, noise, way []byte, damage uint32) {
		l := (&source{schemas}).schemas()
		all := join((&source{b}).pieces(l), noise)
		r := &source{way}
		ask(t, l, all, r.cuts(all))
		changed := bytes.Clone(all)
		if len(all) > 0 {
			changed[int(damage>>8)%len(all)] ^= byte(damage) | 1
		}
		ask(t, l, changed, r.cuts(changed))
		whole := (&source{b}).file()
		survive(t, whole, whole.b)
		if len(whole.b) > 0 {
			at := int(damage>>8) % len(whole.b)
			changed := bytes.Clone(whole.b)
			changed[at] ^= byte(damage) | 1
			survive(t, whole, changed)
			survive(t, whole, join(whole.b[:at], noise))
		}
	})
}

// file is a whole file of mixed frames.
func (r *source) file() *laid {
	l := &laid{}
	for i := 0; len(r.left) > 0 && i < 60; i++ {
		last, _, _, _ := l.standing()
		switch wild := r.next() % 8; {
		case last.Kind == 0:
			l.schema(0, r.schema())
		case wild == 0:
			l.schema(last.Number+1, r.schema())
		case wild == 1:
			l.schema(last.Number, last.Schema)
		case wild == 2:
			l.index()
		default:
			if rows := r.rows(last.Schema, 1+r.next()%12); len(rows) > 0 {
				l.data(rows)
			}
		}
	}
	return l
}
