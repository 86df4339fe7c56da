package writer_test

import (
	"math"
	"slices"
	"strconv"
	"strings"
	"testing"

	"gabion/api"
	"gabion/batch"
	"gabion/dev"
	"gabion/schema"
)

// source is bytes that are taken one by one; behind their end come zeros.
type source struct{ left []byte }

func (r *source) next() int {
	if len(r.left) == 0 {
		return 0
	}
	b := r.left[0]
	r.left = r.left[1:]
	return int(b)
}

// kinds is a type at a depth, one that may be.
func (r *source) kinds(depth int) api.Type {
	k := 1 + r.next()%7
	switch {
	case k < 6:
		return kind(k)
	case depth == 4:
		return ofInt
	}
	return kind(k, r.kinds(depth+1))
}

var someInts = []int64{0, 1, -1, 1 << 53, math.MaxInt64, math.MinInt64, 12345}

var someFloats = []uint64{0, 1 << 63, math.Float64bits(1), math.Float64bits(0.5), 0x7ff0000000000000, 0xfff0000000000000, theNaN, 0xfff8000000000001}

var someTexts = []string{"", "a", "\x00", "\u00e9", strings.Repeat("xy", 20), strings.Repeat("\x00", 300), "\xff", "a\xc3"}

// value is a value of the type.
func (r *source) value(t api.Type) api.Value {
	v := api.Value{Kind: t.Kind}
	wild := r.next()
	switch t.Kind {
	case api.Bool:
		v.Int = int64(wild % 2)
	case api.Int:
		v.Int = someInts[wild%len(someInts)]
	case api.Float:
		v = bits(someFloats[wild%len(someFloats)])
	case api.Text:
		v.Text = someTexts[wild%6]
	case api.Bytes:
		v.Text = someTexts[wild%len(someTexts)]
	case api.Opt:
		for range wild % 3 % 2 {
			v.Items = append(v.Items, r.value(t.Of[0]))
		}
	case api.List:
		for range wild % 4 {
			v.Items = append(v.Items, r.value(t.Of[0]))
		}
	}
	return v
}

// rows are rows of a schema, most often such as may be a block.
func (r *source) rows(s api.Schema) []api.Row {
	var l []api.Row
	for range []int{1, 1, 1, 2, 3, 5, 64, 65}[r.next()%8] {
		one := api.Row{}
		for _, c := range s.Columns {
			one.Values = append(one.Values, r.value(c.Type))
		}
		l = append(l, one)
	}
	for r.next() > 10 && len(l) > 1 {
		if _, e := batch.Size(s, l); e == api.OK {
			break
		}
		l = l[:len(l)/2]
	}
	switch wild := r.next(); {
	case wild == 1:
		return nil
	case wild == 2:
		return append(l, api.Row{})
	case wild == 3:
		l[0].Values = slices.Clone(l[0].Values)
		l[0].Values[0] = r.value(r.kinds(1))
	}
	return l
}

// schema is a schema, now and then one that may not be; most often one of a few.
func (r *source) schema() api.Schema {
	wild := r.next()
	switch {
	case wild < 5:
		return refusedSchemas()[r.next()%len(refusedSchemas())].s
	case wild < 200:
		return []api.Schema{ints, two, floats, nested, texts, wide(16)}[wild%6]
	}
	var s api.Schema
	for i := range 1 + r.next()%3 {
		c := plain("c"+strconv.Itoa(i), r.kinds(1))
		if r.next()%2 == 0 {
			c.Has, c.Default = true, r.value(c.Type)
		}
		s.Columns = append(s.Columns, c)
	}
	if schema.Check(s) != api.OK {
		return ints
	}
	return s
}

// counts are how often something happened in scripts.
type counts struct{ appended, noSpace, power, opened, closed, refused int }

// step makes one call.
func (r *source) step(p *twins, n *counts) {
	p.t.Helper()
	count := func(e api.Errno) {
		switch e {
		case api.ErrNoSpace:
			n.noSpace++
		case api.ErrPower:
			n.power++
		case api.OK:
		default:
			n.refused++
		}
	}
	switch wild := r.next(); {
	case p.w == nil || !p.open && wild < 200 || wild < 6:
		e := p.open1(r.schema())
		count(e)
		if e == api.OK {
			n.opened++
		}
	case wild < 150:
		e := p.append1(r.rows(p.s))
		count(e)
		if e == api.OK {
			n.appended++
		}
	case wild < 175:
		count(p.change1(r.schema()))
	case wild < 190:
		p.sync1()
	case wild < 210:
		p.need1(r.rows(p.s))
	case wild < 225:
		if is, _ := p.close1(); is {
			n.closed++
		}
	case wild < 240:
		p.fail(r.next()*r.next()/16, r.next())
	case wild < 245:
		p.start()
		p.down()
	default:
		p.start()
	}
	if r.next() > 100 {
		p.start()
	}
}

// script makes calls as long as there are bytes; behind them the file is opened again, and read.
func (r *source) script(t *testing.T, n *counts) {
	t.Helper()
	quota := []int{plenty, plenty, 100, 400, 1000, 3000}[r.next()%6]
	d, _ := dev.New(quota)
	p := twinsOf(t, d)
	for len(r.left) > 0 {
		r.step(p, n)
	}
	p.start()
	p.fail(math.MaxInt, 0)
	p.Open(ints, api.OK)
	p.mustRead()
	p.close1()
	p.mustRead()
}

// TestMixed: P19.1 to P19.6, P0.1, P0.2: mixed scripts of calls and failures.
func TestMixed(t *testing.T) {
	var n counts
	for k := range uint64(600) {
		(&source{mixedBytes(k, 100+int(k), 5)}).script(t, &n)
	}
	if n.appended < 3000 || n.noSpace < 200 || n.power < 150 || n.opened < 1000 || n.closed < 200 || n.refused < 500 {
		t.Fatalf("too few: %+v", n)
	}
}

// FuzzWriter: P19.1 to P19.6, P0.1, P0.2: scripts that the fuzzer makes up.
func FuzzWriter(f *testing.F) {
	for k := range uint64(30) {
		f.Add(mixedBytes(k, 50+20*int(k), 4))
	}
	f.Fuzz(func(t *testing.T, b []byte) {
		(&source{b}).script(t, &counts{})
	})
}
