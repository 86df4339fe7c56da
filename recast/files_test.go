package recast_test

import (
	"math"
	"slices"
	"strings"

	"gabion/api"
	"gabion/dev"
)

func boolean(n int64) api.Value { return api.Value{Kind: api.Bool, Int: n} }

// blocks are blocks that may be: of each kind of value, of one row and of 64, short ones and such as are as long as they may be.
func blocks() []step {
	return []step{
		{ints, numbers(1)}, {ints, numbers(0, -1, math.MaxInt64, math.MinInt64, 64)}, {ints, numbers(make([]int64, 64)...)},
		{texts, rows(text(""))}, {texts, rows(text("é\x00"), text(strings.Repeat("xy", 511)))}, {texts, letters(1022, 1022)},
		{two, []api.Row{values(number(5), text("five")), values(number(-5), text(""))}},
		{floats, []api.Row{values(bits(1<<63), list()), values(bits(0xfff8000000000001), list(opt(bits(0x7ff0000000000001)), opt())), values(bits(0), list(opt(bits(0x7ff0000000000000))))}},
		{nested, []api.Row{values(list(opt(list(rawBytes("\x00\xff"), rawBytes(""))), opt()), opt(), boolean(1)), values(list(), opt(text("t")), boolean(0))}},
		{wide(16), []api.Row{values(slices.Repeat([]api.Value{number(-1 << 40)}, 16)...)}},
		{longSchema(1024), rows(rawBytes("x"))}, {real, reals(1, 0.5, math.Inf(1), -7)},
	}
}

// script are appends under some schemas, again and again.
func script() []step {
	var l []step
	for i := range int64(10) {
		l = append(l, step{ints, numbers(i, -i, i*i)})
	}
	l = append(l, blocks()...)
	for range 9 {
		l = append(l, step{two, []api.Row{values(number(7), text("seven"))}})
	}
	return append(l, step{ints, numbers(8)}, step{two, []api.Row{values(number(9), text(""))}})
}

// shortScript are a few short ones, under three schemas: 12 rows; under real the last but three one is left.
func shortScript() []step {
	return []step{
		{ints, numbers(1, 2)}, {ints, numbers(3)}, {two, []api.Row{values(number(4), text("four")), values(number(5), text(""))}}, {two, []api.Row{values(number(6), text("\x00"))}},
		{real, reals(7, 8)}, {ints, numbers(odd, 10, 11)}, {ints, numbers(12)},
	}
}

// files are files to be read: without a row, of one schema and of several, closed and not, torn, damaged, noise.
func files() []*dev.Dev {
	short, long := written(shortScript()...), written(script()...)
	l := []*dev.Dev{
		newDev(0), closed(newDev(100)), written(step{ints, numbers(1)}), closed(written(step{ints, numbers(upTo(64)...)})),
		single(ints, numbers(upTo(30)...)), short, closed(short.Clone()), long, closed(long.Clone()), takeDown(short.Clone()), devOf(1000, mixedBytes(1, 500, 7)),
	}
	for _, n := range []int{1, short.Len() / 2, short.Len() - 1} {
		l = append(l, devOf(maxQuota, short.All()[:n]))
	}
	for _, k := range []int{0, 2, 5} {
		d := short.Clone()
		d.Damage(dataOf(d)[k].from+5, 0xee)
		l = append(l, d)
	}
	return l
}

// refusedSchema is a schema that may not be, and why.
type refusedSchema struct {
	s    api.Schema
	want api.Errno
}

// refusedSchemas are some for each error of schema.Check.
func refusedSchemas() []refusedSchema {
	deep := listOf(listOf(listOf(listOf(ofInt))))
	return []refusedSchema{
		{api.Schema{}, api.ErrEmpty}, {wide(17), api.ErrMany}, {of(plain("A", ofInt)), api.ErrName}, {of(plain("", ofInt)), api.ErrName}, {of(plain(strings.Repeat("a", 17), ofInt)), api.ErrName},
		{of(plain("a", ofInt), plain("a", ofText)), api.ErrTwice}, {of(plain("a", kind(8))), api.ErrKind}, {of(plain("a", kind(api.List))), api.ErrKind}, {of(plain("a", deep)), api.ErrDeep},
		{of(with("a", ofText, number(5))), api.ErrType}, {of(api.Column{Name: "a", Type: ofInt, Default: number(0)}), api.ErrType}, {of(with("a", ofText, text("\xff"))), api.ErrUtf}, {longSchema(1025), api.ErrLong},
	}
}

// readers are schemas to read under: such as all files of tests can be read under, some of their rows, none.
func readers() []api.Schema {
	return []api.Schema{
		ints, two, real, texts, padded, of(with("z", ofText, text("?")), with("b", optOf(ofBytes), opt())), of(plain("a", optOf(ofInt))), of(plain("q", ofInt)),
		of(with("f", listOf(ofFloat), list(bits(0xfff8000000000bad)))), of(with("a", ofBytes, rawBytes(strings.Repeat("z", 900)))),
	}
}
