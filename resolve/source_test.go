package resolve_test

import (
	"math"
	"slices"
	"strconv"
	"strings"

	"gabion/api"
	"gabion/schema"
)

// source is bytes that are taken one by one; behind their end come zeros.
type source struct{ left []byte }

func (r *source) next() int {
	if len(r.left) == 0 {
		return 0
	}
	b := r.left[0]
	r.left = r.left[1:]
	return int(b)
}

// kinds is a type at a depth: most often one that may be.
func (r *source) kinds(depth int) api.Type {
	t := kind(1 + r.next()%7)
	wild := r.next()
	switch {
	case wild >= 254:
		return kind([]int{0, 8}[wild-254])
	case wild == 253:
		return kind(t.Kind, ofInt, ofInt)
	case wild == 252:
		return kind(api.Text, ofInt)
	case t.Kind < 6 || wild == 251 || depth > 4:
		return t
	case depth == 4 && wild < 240:
		return kind(1 + wild%5)
	}
	t.Of = []api.Type{r.kinds(depth + 1)}
	return t
}

var someInts = []int64{0, 1, -1, 1 << 53, 1<<53 + 1, -1 << 53, -1<<53 - 1, 1<<53 + 2, math.MaxInt64, math.MinInt64, 12345}

var someFloats = []float64{0, minusZero, 1, -1, 0.5, math.Inf(1), math.Inf(-1), 1 << 53, -1 << 63, 1 << 63, 12345}

var someTexts = []string{"", "a", "\x00", "\u00e9", "\ufffd", "\xff", "a\xc3", strings.Repeat("\u00e9", 64)}

// value is a value that is most often of the type.
func (r *source) value(t api.Type) api.Value {
	v := api.Value{Kind: t.Kind}
	wild := r.next()
	if wild >= 254 {
		return []api.Value{{}, {Kind: 8}, boolean(2), number(5), text("\xff"), text("a"), rawBytes("\xff"), opt(number(1), number(1)), list(number(1), text("a")), list(times(257, boolean(1))...), text(strings.Repeat("a", 1025))}[r.next()%11]
	}
	switch t.Kind {
	case api.Bool:
		v.Int = int64(wild % 2)
	case api.Int:
		v.Int = someInts[r.next()%len(someInts)]
	case api.Float:
		v.Float = someFloats[r.next()%len(someFloats)]
		if wild%4 == 0 {
			v.Float = math.Float64frombits(nanBits[wild/4%len(nanBits)])
		}
	case api.Text:
		v.Text = someTexts[r.next()%5]
	case api.Bytes:
		v.Text = someTexts[r.next()%len(someTexts)]
	case api.Opt, api.List:
		for range wild % (2 + t.Kind%2*2) {
			if len(t.Of) > 0 {
				v.Items = append(v.Items, r.value(t.Of[0]))
			}
		}
	}
	return v
}

// column is a column of that name, with a default or without one; most often one that may be.
func (r *source) column(name string) api.Column {
	c := plain(name, r.kinds(1))
	switch wild := r.next(); {
	case wild == 255:
		c.Name = "c0"
	case wild == 254:
		c.Default = number(1)
	case wild%2 == 1:
		c.Has, c.Default = true, r.value(c.Type)
	}
	return c
}

// schema is a schema: most often one that may be.
func (r *source) schema() api.Schema {
	var s api.Schema
	count := 1 + r.next()%4
	if wild := r.next(); wild >= 250 {
		count = wild - 250 + 12
	}
	for i := range count {
		s.Columns = append(s.Columns, r.column("c"+strconv.Itoa(i)))
	}
	return s
}

// near is a type that t can be read as, most often; it may be, if t may.
func (r *source) near(t api.Type) api.Type {
	if other := r.turned(t); schema.CheckType(other) == api.OK {
		return other
	}
	return t
}

func (r *source) turned(t api.Type) api.Type {
	if len(t.Of) == 1 {
		t = kind(t.Kind, r.turned(t.Of[0]))
	}
	switch wild := r.next(); {
	case wild < 50:
		return optOf(t)
	case wild < 150 && t.Kind == api.Opt && len(t.Of) == 1:
		return t.Of[0]
	case wild < 150 && t.Kind >= api.Bool && t.Kind <= api.Bytes:
		return kind([]int{api.Bool: api.Int, api.Int: api.Float, api.Float: api.Int, api.Text: api.Bytes, api.Bytes: api.Text}[t.Kind])
	case wild >= 252:
		return kind(1 + wild%5)
	}
	return t
}

// other is a schema under which rows of s can be read, quite often: some columns fewer, some turned, some in other places, some more.
func (r *source) other(s api.Schema) api.Schema {
	var to api.Schema
	for _, c := range s.Columns {
		wild := r.next()
		if wild < 50 {
			continue
		}
		c = plain(c.Name, r.near(c.Type))
		if wild%3 == 0 {
			c.Has, c.Default = true, r.value(c.Type)
		}
		to.Columns = slices.Insert(to.Columns, wild/4%(len(to.Columns)+1), c)
	}
	for i := range r.next() % 3 {
		c := r.column("d" + strconv.Itoa(i))
		if !c.Has && i == 0 {
			c.Has, c.Default = true, r.value(c.Type)
		}
		to.Columns = slices.Insert(to.Columns, r.next()%(len(to.Columns)+1), c)
	}
	if len(to.Columns) == 0 {
		return s
	}
	return to
}

// row is a row: quite often one of the schema.
func (r *source) row(s api.Schema) api.Row {
	var l []api.Value
	for _, c := range s.Columns {
		l = append(l, r.value(c.Type))
	}
	switch wild := r.next(); {
	case wild == 255:
		l = append(l, number(1))
	case wild == 254 && len(l) > 0:
		l = l[1:]
	}
	return values(l...)
}

// reading is a row of a schema, and another schema.
type reading struct {
	from, to api.Schema
	r        api.Row
}

func (r *source) reading() reading {
	from := r.schema()
	one := reading{from: from, r: r.row(from)}
	if r.next() >= 230 {
		one.to = r.schema()
	} else {
		one.to = r.other(from)
	}
	return one
}

// manyReadings are mixed schemas with rows, right ones and wrong ones.
func manyReadings() []reading {
	var l []reading
	for k := range uint64(6000) {
		r := source{mixedBytes(k, 300)}
		l = append(l, r.reading())
	}
	return l
}

// rightReadings are those of manyReadings whose rows can be read.
func rightReadings() []reading {
	return slices.DeleteFunc(manyReadings(), func(one reading) bool {
		_, e := wordRow(one.from, one.to, one.r)
		return e != api.OK
	})
}
