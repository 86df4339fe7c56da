package frame_test

import (
	"math"
	"strconv"
	"strings"

	"gabion/api"
	"gabion/schema"
)

// source is bytes that are taken one by one; behind their end come zeros.
type source struct{ left []byte }

func (r *source) next() int {
	if len(r.left) == 0 {
		return 0
	}
	b := r.left[0]
	r.left = r.left[1:]
	return int(b)
}

var someNumbers = []int64{0, 1, 2, 127, 128, 300, 16383, 16384, 1<<21 - 1, 1 << 21, 1<<28 - 1, 1 << 28, maxNumber - 1}

var someLarge = []int64{maxNumber, maxNumber + 1, 1<<35 - 1, 1 << 35, maxSeq - 2, maxSeq - 1}

var wrongNumbers = []int64{-1, maxSeq, maxSeq + 1, 1 << 62, math.MaxInt64, math.MinInt64}

// number is a small one or a large one, as it is asked, and seldom none of them.
func (r *source) number(limit int64) int64 {
	wild := r.next()
	switch {
	case wild >= 254:
		return wrongNumbers[r.next()%len(wrongNumbers)]
	case wild == 253:
		return limit
	case wild%3 == 0 && limit == maxSeq:
		return someLarge[wild/3%len(someLarge)]
	}
	return someNumbers[wild/3%len(someNumbers)]
}

func (r *source) rows() int {
	if wild := r.next(); wild >= 250 {
		return []int{0, 65, -1, math.MaxInt, math.MinInt, 1<<32 + 1}[wild-250]
	}
	return 1 + r.next()%64
}

// block has its bytes out of few kinds, so that it is stuffed in unlike ways.
func (r *source) block() []byte {
	n := r.next()
	if wild := r.next(); wild >= 200 {
		n = 2150 + wild%64
	}
	seed, modulo := uint64(r.next()), []byte{255, 3, 2, 1, 100}[r.next()%5]
	b := mixedBytes(seed, n)
	for i := range b {
		b[i] %= modulo
		if modulo == 255 {
			b[i]++
		}
	}
	return b
}

func (r *source) index() api.Index {
	x := api.Index{At: r.number(maxSeq), Frames: r.number(maxSeq), Rows: r.number(maxSeq)}
	n := r.next() % 6
	if wild := r.next(); wild >= 240 {
		n = []int{63, 64, 65, 66}[wild%4]
	}
	for range n {
		x.Entries = append(x.Entries, api.Entry{At: r.number(maxSeq), Row: r.number(maxSeq), Schema: r.number(maxSeq)})
	}
	return x
}

// kinds is a type at a depth: nearly always one that may be.
func (r *source) kinds(depth int) api.Type {
	k := 1 + r.next()%7
	wild := r.next()
	switch {
	case wild == 255:
		return kind(8)
	case wild == 254:
		return kind(k, ofInt, ofInt)
	case k < api.Opt || depth > 4:
		return kind(k)
	case depth == 4 && wild < 250:
		return kind(1 + wild%5)
	}
	return kind(k, r.kinds(depth+1))
}

var someInts = []int64{0, 1, -1, 63, 64, -64, -65, math.MaxInt64, math.MinInt64}

var someFloats = []float64{0, minusZero, 1, -0.5, math.Inf(1), math.Inf(-1)}

var someTexts = []string{"", "a", "\x00", "\u00e9", strings.Repeat("ab", 20), strings.Repeat("a", 128)}

// value is a value of the type.
func (r *source) value(t api.Type) api.Value {
	v := api.Value{Kind: t.Kind}
	wild := r.next()
	switch t.Kind {
	case api.Bool:
		v.Int = int64(wild % 2)
	case api.Int:
		v.Int = someInts[wild%len(someInts)]
	case api.Float:
		v.Float = someFloats[wild%len(someFloats)]
		if wild%2 == 0 {
			v.Float = math.Float64frombits(nanBits[wild/2%len(nanBits)])
		}
	case api.Text, api.Bytes:
		v.Text = someTexts[wild%len(someTexts)]
	case api.Opt, api.List:
		for range wild % (2 + t.Kind%2*2) {
			if len(t.Of) > 0 {
				v.Items = append(v.Items, r.value(t.Of[0]))
			}
		}
	}
	return v
}

// schema is a schema: most often one that may be.
func (r *source) schema() api.Schema {
	var s api.Schema
	for i := range 1 + r.next()%4 {
		c := plain("c"+strconv.Itoa(i), r.kinds(1))
		switch wild := r.next(); {
		case wild == 255:
			c.Name = "c0"
		case wild == 254:
			c.Name = "C"
		case wild == 253:
			c.Default = number(1)
		case wild%2 == 1:
			c.Has, c.Default = true, r.value(c.Type)
		}
		s.Columns = append(s.Columns, c)
	}
	switch wild := r.next(); {
	case wild == 255:
		return api.Schema{}
	case wild == 254:
		return wide(17)
	case wild >= 250:
		return longSchema(1022 + wild - 250)
	}
	return s
}

// frame has all fields set, also those that don't count.
func (r *source) frame() api.Frame {
	f := api.Frame{Kind: 1 + r.next()%3}
	if wild := r.next(); wild >= 250 {
		f.Kind = []int{0, 4, -1, 257, math.MaxInt, math.MinInt}[wild-250]
	}
	f.Number, f.Seq, f.First = r.number(maxNumber), r.number(maxSeq), r.number(maxSeq)
	f.Rows, f.Block, f.Index, f.Schema = r.rows(), r.block(), r.index(), r.schema()
	return f
}

// manyFrames are mixed frames, right ones and wrong ones.
func manyFrames() []api.Frame {
	var l []api.Frame
	for k := range uint64(4000) {
		r := source{mixedBytes(k, 500)}
		l = append(l, r.frame())
	}
	return l
}

// rightFrames are those of manyFrames that may be.
func rightFrames() []api.Frame {
	var l []api.Frame
	for _, f := range manyFrames() {
		if _, e := wordEncode(f); e == api.OK {
			l = append(l, f)
		}
	}
	return l
}

// unlikeFrames are frames of each kind at their edges, with no fields that don't count.
func unlikeFrames() []api.Frame {
	all := of(plain("b", ofBool), with("i", ofInt, number(math.MinInt64)), with("f", ofFloat, nan(nanBits[8])), with("t", ofText, text("\u20ac")), with("y", ofBytes, rawBytes("\xff\x00")), with("o", optOf(ofText), opt(text(""))), with("l", listOf(optOf(ofFloat)), list(opt(float(minusZero)), opt(), opt(nan(nanBits[1])))))
	full := api.Entry{At: maxSeq - 1, Row: maxSeq - 1, Schema: maxSeq - 1}
	var nought, filled, unlike []api.Entry
	for i := range int64(64) {
		nought, filled, unlike = append(nought, api.Entry{}), append(filled, full), append(unlike, entry(i*9000, i*256, i*2000))
	}
	return []api.Frame{
		schemaFrame(0, ints), schemaFrame(1, all), schemaFrame(maxNumber-1, wide(16)), schemaFrame(300, longSchema(1024)), schemaFrame(maxNumber-1, of(with("f", ofFloat, nan(theNaN)))),
		dataFrame(0, 0, 0, 1, ""), dataFrame(1, 300, 5, 2, "\x00\x02\x01"), dataFrame(maxNumber-1, maxSeq-1, maxSeq-1, 64, "\x00"), dataFrame(0, 0, 0, 1, strings.Repeat("\x00", 2190)), dataFrame(127, 128, 129, 63, noZeros(3, 2100)), dataFrame(0, 1, 2, 3, noZeros(4, 254)), dataFrame(2, 3, 4, 5, string(mixedBytes(5, 600))),
		indexFrame(0, 0, 0), indexFrame(900, 2, 7, entry(17, 0, 0)), indexFrame(maxSeq-1, maxSeq-1, maxSeq-1, filled...), indexFrame(0, 0, 0, nought...), indexFrame(590000, 256, 16384, unlike...), indexFrame(128, 1, 64, entry(0, 0, 0), full, entry(1, 2, 3)),
	}
}

// wrongSchema is a schema that may not be, and schema.Check's error of it.
type wrongSchema struct {
	s api.Schema
	e api.Errno
}

// wrongSchemas has at least one for each of schema.Check's errors.
func wrongSchemas() []wrongSchema {
	l := []wrongSchema{
		{api.Schema{}, api.ErrEmpty}, {wide(17), api.ErrMany}, {of(plain("", ofInt)), api.ErrName}, {of(plain("A", ofInt)), api.ErrName}, {of(plain("a", ofInt), plain("a", ofInt)), api.ErrTwice},
		{of(plain("a", kind(0))), api.ErrKind}, {of(plain("a", kind(8))), api.ErrKind}, {of(plain("a", kind(api.List))), api.ErrKind}, {of(plain("a", listOf(listOf(listOf(listOf(ofInt)))))), api.ErrDeep},
		{of(with("a", ofText, number(5))), api.ErrType}, {of(with("a", ofBool, boolean(2))), api.ErrKind}, {of(with("a", ofText, text("\xff"))), api.ErrUtf}, {of(with("a", ofText, text(strings.Repeat("a", 1025)))), api.ErrLong},
		{of(with("a", listOf(ofBool), list(times(257, boolean(1))...))), api.ErrMany}, {of(api.Column{Name: "a", Type: ofInt, Default: number(1)}), api.ErrType}, {longSchema(1025), api.ErrLong}, {of(plain("a", ofInt), plain("b", kind(9))), api.ErrKind},
	}
	for _, one := range l {
		if e := schema.Check(one.s); e != one.e {
			panic("schema.Check: " + strconv.Itoa(int(e)) + ", not " + strconv.Itoa(int(one.e)))
		}
	}
	return l
}
