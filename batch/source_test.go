package batch_test

import (
	"math"
	"strconv"
	"strings"

	"gabion/api"
)

// source is bytes that are taken one by one; behind their end come zeros.
type source struct{ left []byte }

func (r *source) next() int {
	if len(r.left) == 0 {
		return 0
	}
	b := r.left[0]
	r.left = r.left[1:]
	return int(b)
}

// kinds is a type at a depth: nearly always one that may be.
func (r *source) kinds(depth int) api.Type {
	k := 1 + r.next()%7
	wild := r.next()
	switch {
	case wild == 255:
		return kind(8)
	case wild == 254:
		return kind(k, ofInt, ofInt)
	case k < api.Opt || depth > 4:
		return kind(k)
	case depth == 4 && wild < 250:
		return kind(1 + wild%5)
	}
	return kind(k, r.kinds(depth+1))
}

var someInts = []int64{0, 1, -1, 63, 64, -64, -65, 8191, 8192, math.MaxInt64, math.MinInt64}

var someFloats = []float64{0, minusZero, 1, -0.5, math.Inf(1), math.Inf(-1), math.MaxFloat64, math.SmallestNonzeroFloat64}

var someTexts = []string{"", "a", "\x00", "\u00e9", "\ufffd", strings.Repeat("ab", 20), strings.Repeat("\u00e9", 64), strings.Repeat("a", 128)}

var wrongValues = []api.Value{{}, {Kind: 8}, boolean(2), number(5), text("\xff"), text("a"), opt(number(1), number(1)), list(number(1), text("a")), text(strings.Repeat("a", 1023)), text(strings.Repeat("a", 1025))}

// value is a value of the type.
func (r *source) value(t api.Type) api.Value {
	v := api.Value{Kind: t.Kind}
	wild := r.next()
	switch t.Kind {
	case api.Bool:
		v.Int = int64(wild % 2)
	case api.Int:
		v.Int = someInts[wild%len(someInts)]
	case api.Float:
		v.Float = someFloats[wild%len(someFloats)]
		if wild%4 == 0 {
			v.Float = math.Float64frombits(nanBits[wild/4%len(nanBits)])
		}
	case api.Text, api.Bytes:
		v.Text = someTexts[wild%len(someTexts)]
	case api.Opt, api.List:
		for range wild % (2 + t.Kind%2*2) {
			if len(t.Of) > 0 {
				v.Items = append(v.Items, r.value(t.Of[0]))
			}
		}
	}
	return v
}

// schema is a schema: most often one that may be.
func (r *source) schema() api.Schema {
	var s api.Schema
	for i := range 1 + r.next()%3 {
		c := plain("c"+strconv.Itoa(i), r.kinds(1))
		switch wild := r.next(); {
		case wild == 255:
			c.Name = "c0"
		case wild == 254:
			c.Name = "C"
		case wild == 253:
			c.Default = number(1)
		case wild%4 == 1:
			c.Has, c.Default = true, r.value(c.Type)
		}
		s.Columns = append(s.Columns, c)
	}
	switch wild := r.next(); {
	case wild == 255:
		return api.Schema{}
	case wild == 254:
		s.Columns = make([]api.Column, 17)
	case wild == 253:
		s.Columns[0].Has, s.Columns[0].Type, s.Columns[0].Default = true, ofText, text(strings.Repeat("a", 1010))
	}
	return s
}

// row is a row of the schema, nearly always.
func (r *source) row(s api.Schema) api.Row {
	var l []api.Value
	for _, c := range s.Columns {
		l = append(l, r.value(c.Type))
	}
	switch wild := r.next(); {
	case wild == 255:
		l = append(l, number(1))
	case wild == 254 && len(l) > 0:
		l[len(l)-1] = wrongValues[r.next()%len(wrongValues)]
	}
	return values(l...)
}

// group is a schema and rows for it.
type group struct {
	s api.Schema
	l []api.Row
}

// group has few rows most often, so that not each has a wrong one among them; at times many that are alike.
func (r *source) group() group {
	one := group{s: r.schema()}
	count, wild := r.next()%10, r.next()
	if wild >= 200 {
		count = 62 + wild%4
	}
	for range count {
		if wild%2 == 0 && len(one.l) > 1 {
			one.l = append(one.l, one.l[len(one.l)-2])
			continue
		}
		one.l = append(one.l, r.row(one.s))
	}
	return one
}

// manyGroups are mixed schemas with rows, right ones and wrong ones.
func manyGroups() []group {
	var l []group
	for k := range uint64(4000) {
		r := source{mixedBytes(k, 600)}
		l = append(l, r.group())
	}
	return l
}

// rightGroups are those of manyGroups that may be a block.
func rightGroups() []group {
	var l []group
	for _, one := range manyGroups() {
		if _, e := wordSize(one.s, one.l); e == api.OK {
			l = append(l, one)
		}
	}
	return l
}
